import PyProof.Rows.All
import Wide.All
import OpenK.AllK
import Wide.FinOn
import HandS.Evl
import HandS.GenList
import HandS.Walk
import HandS.WordsExc
import HandS.ForMost
import HandS.Wide
import HandS.Style
import HandS.SortInts
import HandS.SortKw
import HandS.SetFor
import HandS.Flow
import HandS.Gcd
import HandS.Strs
import HandS.Defaults
import HandS.RaiseMore
import KE.KMathG
import KE.KMathGC
import PyProof.ReprRoads
import PyProof.ReprBulk
import PyProof.FitsInt
import PySem.Challenge.RW_pagecounts_k18_whole_page_counts_add_up
set_option Elab.async false
set_option linter.all false
set_option maxRecDepth 100000
set_option maxHeartbeats 4000000
/-! Readings, step by step, from their heads (own lemmas over HandS). -/
namespace HS
open PySem PySem.Spec PyProof.Rows L2
section
variable {σ : L2.St} {H : Hp} {Q : VK} {t u : TS} {te ta tb tx : TE} {tt tv : TT} {n bk ct : L2.St → Hp → Prop} {rt : VK} {K : PySem.W.Frag}
theorem seq (h : t ⟨u ⟨n, rt, bk, ct⟩, rt, bk, ct⟩ σ H) : tSeq t u ⟨n, rt, bk, ct⟩ σ H := h
theorem nxt (h : n σ H) : tNext ⟨n, rt, bk, ct⟩ σ H := h
theorem brk (h : bk σ H) : tBreak ⟨n, rt, bk, ct⟩ σ H := h
theorem cnt (h : ct σ H) : tCont ⟨n, rt, bk, ct⟩ σ H := h
theorem asg {g : TG} (h : te σ H fun x H1 => g x σ H1 n) : tAsg te g ⟨n, rt, bk, ct⟩ σ H := h
theorem nm {v : V} {i : Nat} {q : L2.St → Hp → Prop} (h : q (σ.set i (some v)) H) : gName i v σ H q := h
theorem sub {to ti : TE} {ts : TSet} {v : V} {q : L2.St → Hp → Prop} (h : to σ H fun o H1 => ti σ H1 fun i H2 => ts o i v H2 fun H3 => q σ H3) : gSub to ti ts v σ H q := h
theorem var {i : Nat} {v : V} (h : σ[i]? = some (some v)) (q : Q v H) : tVar i σ H Q := ⟨v, h, q⟩
theorem cst {v : V} (q : Q v H) : tC v σ H Q := q
theorem op {r : R2} (h : ta σ H fun x H1 => tb σ H1 fun y H2 => r x y H2 Q) : tOp r ta tb σ H Q := h
theorem un {r : V → Hp → VK → Prop} (h : ta σ H fun x H1 => r x H1 Q) : tUn r ta σ H Q := h
theorem i0 {g : Int → Int → V} {i j : Int} (q : Q (g i j) H) : rI0 g (.int i) (.int j) H Q := ⟨i, j, rfl, rfl, q⟩
theorem i1 {C : Int → Int → Prop} {g : Int → Int → V} {i j : Int} (q : C i j ∧ Q (g i j) H) : rI C g (.int i) (.int j) H Q := ⟨i, j, rfl, rfl, q⟩
theorem u0 {g : Int → V} {i : Int} (q : Q (g i) H) : rU g (.int i) H Q := ⟨i, rfl, q⟩
theorem eqI {i j : Int} (q : Q (.bl (decide (i = j))) H) : rEq (.int i) (.int j) H Q := ⟨rfl, by
  have e : decide ((V.int i) = V.int j) = decide (i = j) := by
    by_cases h : i = j
    · rw [h]; simp
    · have h2 : ¬ (V.int i = V.int j) := fun z => h (V.int.inj z)
      rw [decide_eq_false h, decide_eq_false h2]
  rw [e]; exact q⟩
theorem neI {i j : Int} (q : Q (.bl (!decide (i = j))) H) : rNe (.int i) (.int j) H Q := ⟨rfl, by
  have e : decide ((V.int i) = V.int j) = decide (i = j) := by
    by_cases h : i = j
    · rw [h]; simp
    · have h2 : ¬ (V.int i = V.int j) := fun z => h (V.int.inj z)
      rw [decide_eq_false h, decide_eq_false h2]
  rw [e]; exact q⟩
theorem tst {q : Bool → Hp → Prop} (h : te σ H fun x H' => ∃ k, x = .bl k ∧ q k H') : tTest te σ H q := h
theorem tb1 {q : Bool → Hp → Prop} (h : te σ H fun x H' => ∃ k, x = .bl k ∧ q k H') : tB te σ H q := h
theorem bex {b : Bool} {q : Bool → Prop} (h : q b) : ∃ k, V.bl b = V.bl k ∧ q k := ⟨b, rfl, h⟩
theorem ifs (h : tt σ H fun b H1 => if b = true then t ⟨n, rt, bk, ct⟩ σ H1 else u ⟨n, rt, bk, ct⟩ σ H1) : tIfS tt t u ⟨n, rt, bk, ct⟩ σ H := h
theorem ife (h : tt σ H fun b H1 => if b = true then ta σ H1 Q else tb σ H1 Q) : tIf tt ta tb σ H Q := h
theorem and {q : Bool → Hp → Prop} (h : tt σ H fun c H1 => if c = true then tv σ H1 q else q false H1) : tAnd tt tv σ H q := h
theorem or {q : Bool → Hp → Prop} (h : tt σ H fun c H1 => if c = true then q true H1 else tv σ H1 q) : tOr tt tv σ H q := h
theorem not {q : Bool → Hp → Prop} (h : tt σ H fun c H1 => q (!c) H1) : tNot tt σ H q := h
theorem andV (h : ta σ H fun x H1 => ∃ c, x = .bl c ∧ if c = true then tb σ H1 Q else Q (.bl false) H1) : tAndV ta tb σ H Q := h
theorem orV (h : ta σ H fun x H1 => ∃ c, x = .bl c ∧ if c = true then Q (.bl true) H1 else tb σ H1 Q) : tOrV ta tb σ H Q := h
theorem notV (h : ta σ H fun x H1 => ∃ c, x = .bl c ∧ Q (.bl (!c)) H1) : tNotV ta σ H Q := h
theorem chn {r r' : R2} {tc : TE} (h : ta σ H fun x H1 => tb σ H1 fun y H2 => r x y H2 fun z H3 => ∃ k, z = .bl k ∧ if k = true then tc σ H3 fun w H4 => r' y w H4 Q else Q (.bl false) H3) : tChain r r' ta tb tc σ H Q := h
theorem ret (h : te σ H rt) : tRet te ⟨n, rt, bk, ct⟩ σ H := h
theorem retN (h : rt .non H) : tRetN ⟨n, rt, bk, ct⟩ σ H := h
theorem drp (h : te σ H fun _ H1 => n σ H1) : tDrop te ⟨n, rt, bk, ct⟩ σ H := h
theorem cb {r : List V → Hp → VK → Prop} {tl : TA} (h : tl σ H fun vs H1 => r vs H1 Q) : tCB r tl σ H Q := h
theorem anil {q : List V → Hp → Prop} (h : q [] H) : tNil σ H q := h
theorem acons {tl : TA} {q : List V → Hp → Prop} (h : te σ H fun x H1 => tl σ H1 fun xs H2 => q (x :: xs) H2) : tCons te tl σ H q := h
theorem cal {sp : Sp} {E : XK} {tl : TA} (h : tl σ H fun vs H1 => sp vs H1 Q E) : tCall sp [] E tl σ H Q := by
  show tl σ H fun vs H1 => sp (vs ++ []) H1 Q E
  simp only [List.append_nil]; exact h
theorem tup {tl : TA} (h : tl σ H fun xs H1 => xs.length ≤ sizeLine ∧ ∀ p, H1 p = none → Q (.ref p) (upd H1 p (.tup xs))) : tTup tl σ H Q := h
theorem lst {tl : TA} (h : tl σ H fun xs H1 => xs.length ≤ sizeLine ∧ ∀ p, H1 p = none → Q (.ref p) (upd H1 p (.lst xs))) : tLst tl σ H Q := h
theorem par {i j : Nat} {tl : TA} (h : tl σ H fun vs H1 => ∃ v w, vs = [v, w] ∧ n ((σ.set i (some v)).set j (some w)) H1) : tPar i j tl ⟨n, rt, bk, ct⟩ σ H := h
theorem ex2 {v w : V} {q : V → V → Prop} (h : q v w) : ∃ a b, [v, w] = [a, b] ∧ q a b := ⟨v, w, rfl, h⟩
theorem aug {i : Nat} {ti : TIp} {x : V} (e : σ[i]? = some (some x)) (h : te σ H fun y H1 => ti x y H1 fun z H2 => n (σ.set i (some z)) H2) : tAug i te ti ⟨n, rt, bk, ct⟩ σ H := ⟨x, e, h⟩
theorem ipi {f : Int → Int → Int} {i j : Int} (q : Q (.int (f i j)) H) : ipI f (.int i) (.int j) H Q := ⟨i, j, rfl, rfl, q⟩
theorem addI {i j : Int} (q : Q (.int (i + j)) H) : rAdd (.int i) (.int j) H Q := ⟨i, j, rfl, rfl, q⟩
theorem ixL {p : Addr} {xs : List V} {i : Int} {v : V} (h : SqL K H p xs) (e : atI xs i = some v) (q : Q v H) : rIxL K (.ref p) (.int i) H Q := ⟨p, xs, i, v, rfl, rfl, h, e, q⟩
theorem ixT {p : Addr} {xs : List V} {i : Int} {v : V} (h : SqT K H p xs) (e : atI xs i = some v) (q : Q v H) : rIxT K (.ref p) (.int i) H Q := ⟨p, xs, i, v, rfl, rfl, h, e, q⟩
/-- an if over a decided thing -/
theorem itd {c A B : Prop} [Decidable c] (h1 : c → A) (h2 : ¬ c → B) : if decide c = true then A else B := by
  by_cases h : c
  · rw [decide_eq_true h, if_pos rfl]; exact h1 h
  · rw [decide_eq_false h, if_neg Bool.false_ne_true]; exact h2 h
theorem itn {c A B : Prop} [Decidable c] (h1 : ¬ c → A) (h2 : c → B) : if (!decide c) = true then A else B := by
  by_cases h : c
  · rw [decide_eq_true h]; exact iteF (h2 h)
  · rw [decide_eq_false h]; exact iteT (h1 h)
theorem it1 {c A B : Prop} [Decidable c] (hc : c) (h : A) : if decide c = true then A else B := itd (fun _ => h) fun z => absurd hc z
theorem it0 {c A B : Prop} [Decidable c] (hc : ¬ c) (h : B) : if decide c = true then A else B := itd (fun z => absurd z hc) fun _ => h
theorem in1 {c A B : Prop} [Decidable c] (hc : ¬ c) (h : A) : if (!decide c) = true then A else B := itn (fun _ => h) fun z => absurd z hc
theorem in0 {c A B : Prop} [Decidable c] (hc : c) (h : B) : if (!decide c) = true then A else B := itn (fun z => absurd hc z) fun _ => h
end
/-! ### heaps: all but S stands -/
def Keep (S : Addr → Prop) (H H' : Hp) : Prop := ∀ a o, H a = some o → ¬ S a → H' a = some o
section
variable {S : Addr → Prop} {H H1 H2 : Hp} {p q : Addr} {o u : HO}
theorem Keep.refl : Keep S H H := fun _ _ h _ => h
theorem Keep.trans (a : Keep S H H1) (b : Keep S H1 H2) : Keep S H H2 := fun x o h n => b x o (a x o h n) n
theorem Keep.new (h : H p = none) : Keep S H (upd H p o) := fun a u e _ => by rw [upd_ne (ne_of_none e h)]; exact e
theorem Keep.put (k : Keep S H H1) (h : H p = none) : Keep S H (upd H1 p o) := fun a u e n => by rw [upd_ne (ne_of_none e h)]; exact k a u e n
theorem Keep.at (k : Keep S H H1) (h : S p) : Keep S H (upd H1 p o) := fun a u e n => by rw [upd_ne (fun z => n (by rw [z]; exact h))]; exact k a u e n
theorem Keep.free (k : Keep S H H1) (h : H1 p = none) (n : ¬ S p) : H p = none := by
  cases e : H p with
  | none => rfl
  | some o => have z := k p o e n; rw [h] at z; cases z
theorem Keep.sq {K : PySem.W.Frag} {xs : List V} (k : Keep S H H1) (h : SqL K H p xs) (n : ¬ S p) : SqL K H1 p xs := by
  rcases h with (h | ⟨o, h⟩) | h
  · exact .inl (.inl (k _ _ h n))
  · exact .inl (.inr ⟨o, k _ _ h n⟩)
  · exact .inr h
theorem Keep.st {K : PySem.W.Frag} {xs : List V} (k : Keep S H H1) (h : SqT K H p xs) (n : ¬ S p) : SqT K H1 p xs := by
  rcases h with (h | ⟨o, h⟩) | h
  · exact .inl (.inl (k _ _ h n))
  · exact .inl (.inr ⟨o, k _ _ h n⟩)
  · exact .inr h
theorem sq {K : PySem.W.Frag} {xs : List V} (h : H p = some (.lst xs)) : SqL K H p xs := .inl (.inl h)
theorem st {K : PySem.W.Frag} {xs : List V} (h : H p = some (.tup xs)) : SqT K H p xs := .inl (.inl h)
end
end HS
theorem hu64 {A : PySem.Around} {k : Nat} (hr : L2.Room k A) : A.units + 64 < PySem.cLine := hr.units
namespace HS
open PySem PySem.Spec PyProof.Rows L2
section
variable {σ : L2.St} {H : Hp} {Q : VK} {te ta tb tx : TE} {K : PySem.W.Frag} {X : Cx}
theorem sz {n : Nat} (h : n ≤ 100000) : n < sizeLine := Nat.lt_of_le_of_lt h (by decide)
theorem szl {n : Nat} (h : n ≤ 100000) : n ≤ sizeLine := Nat.le_of_lt (sz h)
theorem pe_fold {e : Expr} {t : TE} (z : Int) (h : PE X e t) (k : ∀ (σ : L2.St) (H : Hp) (Q : VK), Q (.int z) H → t σ H Q) : PE X e (tC (.int z)) :=
  ⟨fun pins s σ H Q I q => h.run pins s σ H Q I (k σ H Q q)⟩
theorem ii {a b : Int} {q : Int → Int → Prop} (h : q a b) : ∃ i j, [V.int a, V.int b] = [V.int i, V.int j] ∧ q i j := ⟨a, b, rfl, h⟩
theorem bmL {r : V → List V → Hp → VK → Prop} {tl : TA} (h : ta σ H fun x H1 => tyV K "list" x H1 ∧ tl σ H1 fun xs H2 => r x xs H2 Q) : tBM K "list" r ta tl σ H Q := h
theorem bmL0 {r : V → List V → Hp → VK → Prop} (h : ta σ H fun x H1 => tyV K "list" x H1 ∧ r x [] H1 Q) : tBM0 K "list" r ta σ H Q := h
theorem tyL {p : Addr} {xs : List V} {A : Prop} (h : H p = some (.lst xs)) (q : A) : tyV K "list" (.ref p) H ∧ A := ⟨.inl ⟨rfl, _, .inl (.inl h)⟩, q⟩
theorem app {l : Addr} {xs : List V} {y : V} (h : H l = some (.lst xs)) (q : xs.length < sizeLine ∧ Q .non (upd H l (.lst (xs ++ [y])))) : rAppend (.ref l) [y] H Q := ⟨l, xs, y, rfl, rfl, h, q⟩
theorem pop0 {l : Addr} {y : V} {ys : List V} (h : H l = some (.lst (y :: ys))) (q : Q y (upd H l (.lst ys))) : rPopAt (.ref l) [.int 0] H Q := ⟨l, y :: ys, 0, 0, y, rfl, rfl, h, by decide, by decide, by simp [seqIndex?], rfl, q⟩
theorem setL {p : Addr} {xs : List V} {k : Int} {j : Nat} {v : V} {q : Hp → Prop} (h : H p = some (.lst xs)) (e : ixN xs.length k = some j) (g : q (upd H p (.lst (xs.set j v)))) : rSetL (.ref p) (.int k) v H q := ⟨p, xs, _, j, rfl, rfl, h, e, g⟩
theorem mulW {i j : Int} (a b : Nat) (h0 : 0 ≤ i) (h1 : i < 2 ^ a) (g0 : 0 ≤ j) (g1 : j < 2 ^ b) (ha : 0 < a) (hb : 0 < b) (h : a + b ≤ 1000000) : CMulW i j := by
  refine wide_mul (a := a) (b := b) ?_ ?_ ha hb h
  · have : ((i.natAbs : Nat) : Int) < ((2 ^ a : Nat) : Int) := by rw [Int.natAbs_of_nonneg h0]; simpa using h1
    exact Int.ofNat_lt.mp this
  · have : ((j.natAbs : Nat) : Int) < ((2 ^ b : Nat) : Int) := by rw [Int.natAbs_of_nonneg g0]; simpa using g1
    exact Int.ofNat_lt.mp this
theorem divW {i j : Int} (b : Nat) (h : 0 < j) (h1 : j < 2 ^ b) (hb : 0 < b) (h9 : b ≤ 9000) : CDivW i j := by
  refine wide_div (b := b) h ?_ hb h9
  have : ((j.natAbs : Nat) : Int) < ((2 ^ b : Nat) : Int) := by rw [Int.natAbs_of_nonneg (by omega)]; simpa using h1
  exact Int.ofNat_lt.mp this
theorem get_int {ns : List Int} {i : Nat} {x : V} (hi : (ns.map V.int)[i]? = some x) : ∃ z, x = .int z ∧ ns[i]? = some z ∧ i < ns.length := by
  rw [List.getElem?_map] at hi
  cases e : ns[i]? with
  | none => rw [e] at hi; cases hi
  | some z => rw [e] at hi; exact ⟨z, (Option.some.inj hi).symm, rfl, (List.getElem?_eq_some_iff.mp e).1⟩
end
end HS
namespace HS
open PySem PySem.Spec PyProof.Rows L2
theorem Keep.new' {S : Addr → Prop} {H H0 H1 : Hp} {p : Addr} {o : HO} (h : H0 p = none) (k0 : Keep S H H0) (n : ¬ S p) (k : Keep S H H1) : Keep S H (upd H1 p o) := k.put (k0.free h n)
theorem nS2 {p a b : Addr} (h1 : p ≠ a) (h2 : p ≠ b) : ¬ (p = a ∨ p = b) := fun z => z.elim h1 h2
theorem nS3 {p a b c : Addr} (h1 : p ≠ a) (h2 : p ≠ b) (h3 : p ≠ c) : ¬ (p = a ∨ p = b ∨ p = c) := fun z => z.elim h1 fun z => z.elim h2 h3
end HS
namespace HS
open PySem PySem.Spec PyProof.Rows L2
section
variable {σ : L2.St} {H : Hp} {t u : TS} {n bk ct : L2.St → Hp → Prop} {rt : VK}
theorem pnx (h : n σ H) : Ends.nx ⟨n, rt, bk, ct⟩ σ H := h
theorem pbk (h : bk σ H) : Ends.bk ⟨n, rt, bk, ct⟩ σ H := h
theorem pct (h : ct σ H) : Ends.ct ⟨n, rt, bk, ct⟩ σ H := h
theorem prt {v : V} (h : rt v H) : Ends.rt ⟨n, rt, bk, ct⟩ v H := h
theorem cut (M : L2.St → Hp → Prop) (h : t ⟨M, rt, bk, ct⟩ σ H) (k : ∀ σ' H', M σ' H' → u ⟨n, rt, bk, ct⟩ σ' H') : Evl.tCut t u ⟨n, rt, bk, ct⟩ σ H := ⟨M, h, k⟩
theorem pow_lt {i : Int} {a : Nat} (k : Nat) (h0 : 0 ≤ i) (h : i < 2 ^ a) : 0 ≤ i ^ k ∧ (i ^ k < 2 ^ (a * k) ∨ k = 0) := by
  refine ⟨Int.pow_nonneg h0, ?_⟩
  cases k with
  | zero => exact .inr rfl
  | succ k =>
    refine .inl ?_
    obtain ⟨m, rfl⟩ := Int.eq_ofNat_of_zero_le h0
    have h' : m < 2 ^ a := by have : ((m : Nat) : Int) < ((2 ^ a : Nat) : Int) := by simpa using h
                              exact Int.ofNat_lt.mp this
    have := Nat.pow_lt_pow_left h' (Nat.succ_ne_zero k)
    rw [← Nat.pow_mul] at this
    have z : ((m ^ (k + 1) : Nat) : Int) < ((2 ^ (a * (k + 1)) : Nat) : Int) := Int.ofNat_lt.mpr this
    simpa using z
end
end HS
namespace HS
open PySem PySem.Spec PyProof.Rows L2
section
variable {σ : L2.St} {H : Hp} {Q : VK} {ta tb te : TE} {K : PySem.W.Frag}
theorem szc {n : Nat} {A : Prop} (h : n ≤ 100000) (q : A) : n ≤ sizeLine ∧ A := ⟨szl h, q⟩
theorem szd {n : Nat} {A : Prop} (h : n ≤ 100000) (q : A) : n < sizeLine ∧ A := ⟨sz h, q⟩
theorem wp {σ1 σ2 : L2.St} {vs : List Nat} {A : Prop} (e : wipe σ2 vs = wipe σ1 vs) (q : A) : wipe σ2 vs = wipe σ1 vs ∧ A := ⟨e, q⟩
theorem yes {q : Bool → Hp → Prop} (h : q true H) : tYes σ H q := h
theorem ixI {p : Addr} {i : Int} (ns : List Int) (h : SqL K H p (ns.map V.int)) (h0 : 0 ≤ i) (h1 : i < ns.length) (q : ∀ z, ns[i.toNat]? = some z → z ∈ ns → Q (.int z) H) : rIxL K (.ref p) (.int i) H Q := by
  have hi : i.toNat < ns.length := by omega
  have e : ns[i.toNat]? = some ns[i.toNat] := List.getElem?_eq_getElem hi
  refine ⟨p, ns.map V.int, i, .int ns[i.toNat], rfl, rfl, h, ?_, q _ e (List.getElem_mem hi)⟩
  exact at_of (j := i.toNat) (by omega) (by rw [List.getElem?_map, e]; rfl)
theorem ixV {p : Addr} {i : Int} {xs : List V} (h : SqL K H p xs) (h0 : 0 ≤ i) (h1 : i < xs.length) (q : ∀ v, xs[i.toNat]? = some v → v ∈ xs → Q v H) : rIxL K (.ref p) (.int i) H Q := by
  have hi : i.toNat < xs.length := by omega
  have e : xs[i.toNat]? = some xs[i.toNat] := List.getElem?_eq_getElem hi
  refine ⟨p, xs, i, xs[i.toNat], rfl, rfl, h, ?_, q _ e (List.getElem_mem hi)⟩
  exact at_of (j := i.toNat) (by omega) e
theorem ixVT {p : Addr} {i : Int} {xs : List V} (h : SqT K H p xs) (h0 : 0 ≤ i) (h1 : i < xs.length) (q : ∀ v, xs[i.toNat]? = some v → v ∈ xs → Q v H) : rIxT K (.ref p) (.int i) H Q := by
  have hi : i.toNat < xs.length := by omega
  have e : xs[i.toNat]? = some xs[i.toNat] := List.getElem?_eq_getElem hi
  refine ⟨p, xs, i, xs[i.toNat], rfl, rfl, h, ?_, q _ e (List.getElem_mem hi)⟩
  exact at_of (j := i.toNat) (by omega) e
theorem lc {wi : TI} {g : TG} {tt : TT} {vs : List Nat} (h : wi σ H fun J H1 => ∀ D, H1 D = none → ∃ W : Nat → Nat → Hp → Prop, (∃ m, W 0 m (upd H1 D (.lst []))) ∧ ∀ i m H, W i m H → (J.stop i H ∧ Q (.ref D) H) ∨ (J.go i H ∧ ∃ Nx : Hp → Prop, (∀ H', Nx H' → ∃ m', m' < m ∧ W (i + 1) m' H') ∧ ∀ x H', J.yld i H x H' → g x (wipe σ vs) H' fun σ2 H2 => wipe σ2 vs = wipe σ vs ∧ tt σ2 H2 fun b H3 => if b = true then te σ2 H3 fun y H4 => ∃ acc, H4 D = some (.lst acc) ∧ acc.length < sizeLine ∧ Nx (upd H4 D (.lst (acc ++ [y]))) else Nx H3)) : tLc wi g tt te vs σ H Q := h
theorem rng1 {tl : TA} {R : It → Hp → Prop} (h : tl σ H fun vs H1 => ∃ j : Int, vs = [.int j] ∧ -(2 ^ 62) ≤ j ∧ j < 2 ^ 62 ∧ R (Itr 0 j.toNat) H1) : iRng1 tl σ H R := h
theorem rng2 {tl : TA} {R : It → Hp → Prop} (h : tl σ H fun vs H1 => ∃ i j : Int, vs = [.int i, .int j] ∧ (-(2 ^ 62) ≤ i ∧ i < 2 ^ 62 ∧ -(2 ^ 62) ≤ j ∧ j < 2 ^ 62) ∧ R (Itr i (j - i).toNat) H1) : iRng2 tl σ H R := h
theorem lis {tl : TE} {R : It → Hp → Prop} (h : tl σ H fun x H1 => ∃ a, x = .ref a ∧ (∃ xs, SqL K H1 a xs) ∧ R (Itl K a) H1) : iList K tl σ H R := h
theorem ra {a : Addr} {q : Addr → Prop} (h : q a) : ∃ b, V.ref a = V.ref b ∧ q b := ⟨a, rfl, h⟩
theorem i1e {a : Int} {q : Int → Prop} (h : q a) : ∃ i, [V.int a] = [V.int i] ∧ q i := ⟨a, rfl, h⟩
theorem fr {wi : TI} {g : TG} {tb : TS} {D : Ends} (h : wi σ H fun J H1 => ∃ W : Nat → Nat → L2.St → Hp → Prop, (∃ m, W 0 m σ H1) ∧ ∀ i m σ H, W i m σ H →
    (J.stop i H ∧ D.nx σ H) ∨ (J.go i H ∧ ∃ N : L2.St → Hp → Prop, (∀ σ' H', N σ' H' → ∃ m', m' < m ∧ W (i + 1) m' σ' H') ∧ ∀ x H', J.yld i H x H' → g x σ H' fun σ2 H2 => tb { D with nx := N, ct := N, bk := D.nx } σ2 H2)) : tFor wi g tb D σ H := h
end
end HS
namespace HS
open PySem PySem.Spec PyProof.Rows L2
theorem iteM {c : Bool} {ta tb : TE} {σ : L2.St} {H1 : Hp} {Q : VK} (M : VK) (h : c = true → ∀ Q' : VK, (∀ v H', M v H' → Q' v H') → ta σ H1 Q') (g : c = false → ∀ Q' : VK, (∀ v H', M v H' → Q' v H') → tb σ H1 Q') (k : ∀ v H', M v H' → Q v H') :
    if c = true then ta σ H1 Q else tb σ H1 Q := by
  cases c with
  | true => rw [if_pos rfl]; exact h rfl Q k
  | false => rw [if_neg Bool.false_ne_true]; exact g rfl Q k
/-- ceilings -/
theorem ceil_eq {i j : Int} (hj : 1 ≤ j) : (i + j - 1) / j = i / j + (if 0 < i % j then 1 else 0) := by
  have h0 := Int.emod_nonneg i (by omega : j ≠ 0)
  have h1 := Int.emod_lt_of_pos i (by omega : 0 < j)
  have e := Int.mul_ediv_add_emod i j
  generalize i / j = q at e ⊢
  generalize i % j = r at e h0 h1 ⊢
  subst e
  split
  · rename_i h
    rw [show j * q + r + j - 1 = (r - 1) + j * (q + 1) by rw [Int.mul_add]; omega, Int.add_mul_ediv_left _ _ (by omega), Int.ediv_eq_zero_of_lt (by omega) (by omega)]
    omega
  · rename_i h
    rw [show j * q + r + j - 1 = (j - 1) + j * q by omega, Int.add_mul_ediv_left _ _ (by omega), Int.ediv_eq_zero_of_lt (by omega) (by omega)]
    omega
end HS
namespace HS
open PySem PySem.Spec PyProof.Rows L2
section
variable {σ : L2.St} {H : Hp} {te : TE} {t : TS} {tg ug : TGn} {n bk ct : List V → L2.St → Hp → Prop} {rt : List V → VK} {ys : List V} {Q : VK}
theorem gthen (h : tg ⟨fun ys' σ' H' => ug ⟨n, rt, bk, ct⟩ ys' σ' H', rt, bk, ct⟩ ys σ H) : tGThen tg ug ⟨n, rt, bk, ct⟩ ys σ H := h
theorem g0 (h : n ys σ H) : tG0 ⟨n, rt, bk, ct⟩ ys σ H := h
theorem gpl (h : t ⟨n ys, rt ys, bk ys, ct ys⟩ σ H) : tPlain t ⟨n, rt, bk, ct⟩ ys σ H := h
theorem gyl (h : ys.length < sizeLine ∧ te σ H fun x H1 => n (ys ++ [x]) σ H1) : tGYield te ⟨n, rt, bk, ct⟩ ys σ H := h
theorem lgn {tg : TGen} (h : tg σ H fun out H2 => ∀ p, H2 p = none → Q (.ref p) (upd H2 p (.lst out))) : tListG tg σ H Q := h
theorem calg {sp : SpG} {E : XK} {tl : TA} {q : List V → Hp → Prop} (h : tl σ H fun vs H1 => sp vs H1 q E) : tCallG sp [] E tl σ H q := by
  show tl σ H fun vs H1 => sp (vs ++ []) H1 q E
  simp only [List.append_nil]; exact h
end
end HS
namespace HS
open PySem PySem.Spec PyProof.Rows L2
section
variable {H : Hp} {Q : VK} {K : PySem.W.Frag}
theorem ixZ {p : Addr} {i z : Int} {ns : List Int} (h : SqL K H p (ns.map V.int)) (h0 : 0 ≤ i) (e : ns[i.toNat]? = some z) (q : Q (.int z) H) : rIxL K (.ref p) (.int i) H Q :=
  ⟨p, ns.map V.int, i, .int z, rfl, rfl, h, at_of (j := i.toNat) (by omega) (by rw [List.getElem?_map, e]; rfl), q⟩
theorem cut_to (xs : List V) (n : Nat) : cutV xs none (some (n : Int)) = xs.take n := by
  unfold cutV
  rw [HT.sIx_none, HT.sIx_nat, List.drop_zero, Nat.sub_zero]
  rw [List.take_eq_take_iff]
  omega
theorem cut_from (xs : List V) (n : Nat) : cutV xs (some (n : Int)) none = xs.drop n := by
  unfold cutV
  rw [HT.sIx_none, HT.sIx_nat]
  rw [List.take_of_length_le (by rw [List.length_drop]; omega)]
  by_cases h : n ≤ xs.length
  · rw [Nat.min_eq_left h]
  · rw [Nat.min_eq_right (by omega), List.drop_eq_nil_of_le (Nat.le_refl _), List.drop_eq_nil_of_le (by omega)]
end
end HS
namespace HS
open PySem PySem.Spec PyProof.Rows L2
theorem Keep.any {S : Addr → Prop} {H H1 : Hp} (k : Keep (fun _ => False) H H1) : Keep S H H1 := fun a o e _ => k a o e id
theorem Keep.mono {S T : Addr → Prop} {H H1 : Hp} (k : Keep S H H1) (h : ∀ a, S a → T a) : Keep T H H1 := fun a o e n => k a o e fun z => n (h a z)
end HS
namespace HS
open PySem PySem.Spec PyProof.Rows L2
theorem cut_toI {i : Int} (ls : List Int) (h : 0 ≤ i) : cutV (ls.map V.int) none (some i) = (ls.take i.toNat).map V.int := by
  obtain ⟨n, rfl⟩ := Int.eq_ofNat_of_zero_le h
  rw [cut_to, List.map_take]; simp
theorem cut_fromI {i : Int} (ls : List Int) (h : 0 ≤ i) : cutV (ls.map V.int) (some i) none = (ls.drop i.toNat).map V.int := by
  obtain ⟨n, rfl⟩ := Int.eq_ofNat_of_zero_le h
  rw [cut_from, List.map_drop]; simp
end HS
namespace HS
theorem ifT {c : Bool} {A B : Prop} (e : c = true) (h : A) : if c = true then A else B := by rw [if_pos e]; exact h
theorem ifF {c : Bool} {A B : Prop} (e : c = false) (h : B) : if c = true then A else B := by rw [if_neg (by rw [e]; exact Bool.false_ne_true)]; exact h
end HS
namespace HS
open PySem PySem.Spec PyProof.Rows L2
/-- a new object behind what stands -/
theorem Keep.nw {H H1 : Hp} {p : Addr} {o : HO} (k : Keep (fun _ => False) H H1) (h : H1 p = none) : Keep (fun _ => False) H (upd H1 p o) := k.put (k.free h id)
theorem Keep.nwS {S : Addr → Prop} {H H1 : Hp} {p : Addr} {o : HO} (k : Keep S H H1) (h : H1 p = none) (n : ¬ S p) : Keep S H (upd H1 p o) := k.put (k.free h n)
end HS
namespace HS
theorem nt {A B : Prop} (h : B) : if (!true) = true then A else B := by rw [if_neg (show ¬ ((!true) = true) from Bool.false_ne_true)]; exact h
theorem nf {A B : Prop} (h : A) : if (!false) = true then A else B := by rw [if_pos (show (!false) = true from rfl)]; exact h
end HS
namespace HS
open PySem PySem.Spec PyProof.Rows L2
section
variable {H H' : Hp} {p x : Addr} {o u : HO}
theorem upgs (e : upd H p o = H') : H' p = some o := by rw [← e]; exact upd_same
theorem upgK (e : upd H p o = H') (h : H p = none) : Keep (fun _ => False) H H' := by rw [← e]; exact Keep.new h
end
end HS
/-! Data of ints, lists and tuples, and == of such. -/
namespace HS
open PySem PySem.Spec PyProof.Rows L2
def dInts (ns : List Int) : PyData := .list (ns.map .int)
section
variable {K : PySem.W.Frag} {H : Hp}
theorem dpAll_ints : ∀ ns : List Int, DpAll K H (ns.map V.int) (ns.map .int)
  | [] => .nil
  | n :: r => .cons (.int n) (dpAll_ints r)
theorem dp_ints {a : Addr} {ns : List Int} (h : SqL K H a (ns.map V.int)) : Dp K H (.ref a) (dInts ns) := .lst h (dpAll_ints ns)
theorem lay_ints : ∀ ns : List Int, PyData.canLayAll0 (ns.map .int) = true
  | [] => rfl
  | n :: r => by rw [List.map_cons, PyData.canLayAll0, lay_ints r]; rfl
theorem dep_ints : ∀ ns : List Int, PyData.depthAll (ns.map .int) = 0
  | [] => rfl
  | n :: r => by rw [List.map_cons, PyData.depthAll, dep_ints r]; rfl
theorem sh_ints (ns : List Int) : SeqAt.shaped (dInts ns) = true := by
  unfold SeqAt.shaped dInts
  rw [PyData.canLay0, PyData.depth, lay_ints, dep_ints]; rfl
theorem eqv_int (i j : Int) : PyData.eqv (.int i) (.int j) = decide (i = j) := by
  rw [PyData.eqv]; exact Bool.beq_eq_decide_eq i j
theorem eqvAll_ints : ∀ xs ys : List Int, PyData.eqvAll (xs.map .int) (ys.map .int) = decide (xs = ys)
  | [], [] => rfl
  | [], y :: ys => rfl
  | x :: xs, [] => rfl
  | x :: xs, y :: ys => by
    rw [List.map_cons, List.map_cons, PyData.eqvAll, eqv_int, eqvAll_ints xs ys]
    by_cases h : x = y <;> by_cases g : xs = ys <;> simp [h, g]
theorem eqv_ints (xs ys : List Int) : PyData.eqv (dInts xs) (dInts ys) = decide (xs = ys) := by
  unfold dInts; rw [PyData.eqv]; exact eqvAll_ints xs ys
/-- == and != of two lists of ints -/
theorem eqL {a b : Addr} {xs ys : List Int} {Q : VK} (h1 : SqL K H a (xs.map V.int)) (h2 : SqL K H b (ys.map V.int)) (q : Q (.bl (decide (xs = ys))) H) : rEqD K (.ref a) (.ref b) H Q :=
  ⟨_, _, dp_ints h1, dp_ints h2, sh_ints _, sh_ints _, by rw [eqv_ints]; exact q⟩
theorem neL {a b : Addr} {xs ys : List Int} {Q : VK} (h1 : SqL K H a (xs.map V.int)) (h2 : SqL K H b (ys.map V.int)) (q : Q (.bl (!decide (xs = ys))) H) : rNeD K (.ref a) (.ref b) H Q :=
  ⟨_, _, dp_ints h1, dp_ints h2, sh_ints _, sh_ints _, by rw [eqv_ints]; exact q⟩
end
end HS
/-! Rules told with the written part K by its own letter. -/
namespace HS
open PySem PySem.Spec PyProof.Rows L2
section
variable {X : Cx} (K : PySem.W.Frag)
theorem ixl (h : X.K = K := by rfl) : IxR X (rIxL K) := h ▸ ix_list
theorem ixt (h : X.K = K := by rfl) : IxR X (rIxT K) := h ▸ ix_tup
theorem sll (h : X.K = K := by rfl) : SlR X (rSlL K) := h ▸ sl_list
theorem slt (h : X.K = K := by rfl) : SlR X (rSlT K) := h ▸ sl_tup
theorem kbm {E : Expr} {T : String} {r : V → List V → Hp → VK → Prop} {to : TE} {t : TA} (p : PE X E (tBM X.K T r to t)) (h : X.K = K := by rfl) : PE X E (tBM K T r to t) := h ▸ p
theorem kbm0 {E : Expr} {T : String} {r : V → List V → Hp → VK → Prop} {to : TE} (p : PE X E (tBM0 X.K T r to)) (h : X.K = K := by rfl) : PE X E (tBM0 K T r to) := h ▸ p
theorem kil {tg l : Expr} {tl : TE} (p : PI X tg l (iList X.K tl)) (h : X.K = K := by rfl) : PI X tg l (iList K tl) := h ▸ p
theorem kit {tg l : Expr} {tl : TE} (p : PI X tg l (iTup X.K tl)) (h : X.K = K := by rfl) : PI X tg l (iTup K tl) := h ▸ p
theorem kien {tg l : Expr} {tl : TA} (p : PI X tg l (iEnum X.K tl)) (h : X.K = K := by rfl) : PI X tg l (iEnum K tl) := h ▸ p
theorem kgt {tg : Expr} {n : Nat} {t : TGs} (p : PG X tg (gTup X.K n t)) (h : X.K = K := by rfl) : PG X tg (gTup K n t) := h ▸ p
theorem keq (hu : X.A.units + 64 < cLine) (h : X.K = K := by rfl) : OpR X (compareOp .Eq) (rEqD K) := h ▸ op_eqD hu
theorem kne (hu : X.A.units + 64 < cLine) (h : X.K = K := by rfl) : OpR X (compareOp .NotEq) (rNeD K) := h ▸ op_neD hu
theorem kin (h : X.K = K := by rfl) : OpR X (compareOp .In) (rIn K false) := h ▸ op_in_seq
theorem knin (h : X.K = K := by rfl) : OpR X (compareOp .NotIn) (rIn K true) := h ▸ op_notIn_seq
theorem kcatT (h : X.K = K := by rfl) : OpR X (binaryOp .Add) (rCatT K) := h ▸ op_catT
def rLen : List V → Hp → VK → Prop := fun xs H Q => ∃ p ys, xs = [.ref p] ∧ (SqL K H p ys ∨ SqT K H p ys) ∧ Q (.int ys.length) H
def rLst : List V → Hp → VK → Prop := fun xs H Q => ∃ p ys, xs = [.ref p] ∧ (SqL K H p ys ∨ SqT K H p ys) ∧ ∀ l, H l = none → Q (.ref l) (upd H l (.lst ys))
theorem klen (h : X.K = K := by rfl) : CallR X (.builtin "len") (rLen K) := h ▸ call_len_seq
theorem klst (h : X.K = K := by rfl) : CallR X (.type "list") (rLst K) := h ▸ call_list_of
theorem ksum (hc : X.calm = true) (h : X.K = K := by rfl) : CallR X (.builtin "sum") (rSum K) := h ▸ cr_sum hc
theorem kmax (hc : X.calm = true) (h : X.K = K := by rfl) : CallR X (.builtin "max") (rMax K) := h ▸ cr_max hc
theorem kmin (hc : X.calm = true) (h : X.K = K := by rfl) : CallR X (.builtin "min") (rMin K) := h ▸ cr_min hc
theorem krev {E : Expr} {te : TE} (p : PE X E (tRevL X.K te)) (h : X.K = K := by rfl) : PE X E (tRevL K te) := h ▸ p
/-- the names of a block within a block -/
def relab (scO sc : Scope) : Scope := { scO with names := scO.names.map fun (n, k) => if (k == .free && sc.kind == .function && sc.names.lookup n == some .cell) then (n, .cell) else (n, k) }
/-- a list comprehension within a comprehension's block -/
theorem pe_lcIn {X : Cx} {s0 : Shared} {H0 : Hp} {C0 : Addr} {cl0 : List (Str × Addr)} {fp0 : List Addr} {scO : Scope} {elt tg iter : Expr} {ifs : List Expr} {scope : Scope} {own : List (Str × Nat)} {pos : Pos} {wi : TI} {g : TG} {tt : TT} {te : TE} (hc : X.calm = true) (hN : X.N.Nodup) (hi : PI (X.blk s0 H0 scO (compEnvC scO cl0 C0 X.env) fp0) tg iter wi) (sc : Scope) (hsc : X.env.scope = sc) (ok : BlkOk X.N (relab scO sc) scope own)
    (hg : ∀ (s : Shared) (H : Hp) (C : Addr) (cl : List (Str × Addr)) (fp : List Addr), PG ((X.blk s0 H0 scO (compEnvC scO cl0 C0 X.env) fp0).blk s H scope (compEnvC scope cl C (compEnvC scO cl0 C0 X.env)) fp) tg g) (ht : ∀ (s : Shared) (H : Hp) (C : Addr) (cl : List (Str × Addr)) (fp : List Addr), PTs ((X.blk s0 H0 scO (compEnvC scO cl0 C0 X.env) fp0).blk s H scope (compEnvC scope cl C (compEnvC scO cl0 C0 X.env)) fp) ifs tt)
    (he : ∀ (s : Shared) (H : Hp) (C : Addr) (cl : List (Str × Addr)) (fp : List Addr), PE ((X.blk s0 H0 scO (compEnvC scO cl0 C0 X.env) fp0).blk s H scope (compEnvC scope cl C (compEnvC scO cl0 C0 X.env)) fp) elt te) (hs : ∀ x, foldedSetIterable iter (compEnvC scO cl0 C0 X.env) x = pure x := by intro _; rfl) :
    PE (X.blk s0 H0 scO (compEnvC scO cl0 C0 X.env) fp0) (.ListComp elt [⟨tg, iter, ifs, 0⟩] scope pos) (tLc wi g tt te (own.map (·.2))) :=
  by subst hsc; exact pe_lc (X := X.blk s0 H0 scO (compEnvC scO cl0 C0 X.env) fp0) hc hN hi ok hg ht he hs
end
section
variable {σ : L2.St} {H : Hp} {Q : VK} {te : TE} {K : PySem.W.Frag}
theorem lenL {p : Addr} {ys : List V} (h : SqL K H p ys) (q : Q (.int ys.length) H) : rLen K [.ref p] H Q := ⟨p, ys, rfl, .inl h, q⟩
theorem lenT {p : Addr} {ys : List V} (h : SqT K H p ys) (q : Q (.int ys.length) H) : rLen K [.ref p] H Q := ⟨p, ys, rfl, .inr h, q⟩
theorem sumL {p : Addr} {ns : List Int} (h : SqL K H p (ns.map V.int)) (q : Q (.int ns.sum) H) : rSum K [.ref p] H Q := ⟨p, ns, rfl, h, q⟩
theorem revL (h : te σ H fun x H1 => ∃ a xs, x = .ref a ∧ SqL K H1 a xs ∧ ∀ p, H1 p = none → Q (.ref p) (upd H1 p (.lst xs.reverse))) : tRevL K te σ H Q := h
theorem sl {r : V → Option Int → Option Int → Hp → VK → Prop} {tl th : TO} (h : te σ H fun x H1 => tl σ H1 fun l H2 => th σ H2 fun u H3 => r x l u H3 Q) : tSl r te tl th σ H Q := h
theorem noP {q : Option Int → Hp → Prop} (h : q none H) : tNoPart σ H q := h
theorem part {q : Option Int → Hp → Prop} (h : te σ H fun x H1 => ∃ i, x = .int i ∧ q (some i) H1) : tPart te σ H q := h
theorem ie {a : Int} {q : Int → Prop} (h : q a) : ∃ i, V.int a = V.int i ∧ q i := ⟨a, rfl, h⟩
theorem slLs {p : Addr} {xs : List V} {lo hi : Option Int} (h : SqL K H p xs) (q : ∀ p, H p = none → Q (.ref p) (upd H p (.lst (cutV xs lo hi)))) : rSlL K (.ref p) lo hi H Q := ⟨p, xs, rfl, h, q⟩
theorem gtup {n : Nat} {t : TGs} {a : Addr} {xs : List V} {q : L2.St → Hp → Prop} (h : SqT K H a xs) (e : xs.length = n) (k : t xs σ H q) : gTup K n t (.ref a) σ H q := ⟨a, xs, rfl, h, e, k⟩
theorem gcons {t : TG} {u : TGs} {v : V} {r : List V} {q : L2.St → Hp → Prop} (h : t v σ H fun σ' H' => u r σ' H' q) : gCons t u (v :: r) σ H q := ⟨v, r, rfl, h⟩
theorem gnil {q : L2.St → Hp → Prop} (h : q σ H) : gNil [] σ H q := ⟨rfl, h⟩
theorem itup {R : It → Hp → Prop} (h : te σ H fun x H1 => ∃ a, x = .ref a ∧ (∃ xs, SqT K H1 a xs) ∧ R (Itt K a) H1) : iTup K te σ H R := h
theorem ienu {tl : TA} {R : It → Hp → Prop} (h : tl σ H fun vs H1 => ∃ a xs, vs = [.ref a] ∧ SqL K H1 a xs ∧ R (Ite K a) H1) : iEnum K tl σ H R := h
theorem cat {l b : Addr} {xs zs : List V} (h1 : H l = some (.lst xs)) (h2 : H b = some (.lst zs)) (q : xs.length + zs.length ≤ sizeLine ∧ ∀ p, H p = none → Q (.ref p) (upd H p (.lst (xs ++ zs)))) : rCat (.ref l) (.ref b) H Q := ⟨l, b, xs, zs, rfl, rfl, h1, h2, q⟩
theorem ext {l b : Addr} {xs zs : List V} (h1 : H l = some (.lst xs)) (h2 : H b = some (.lst zs)) (q : xs.length + zs.length ≤ sizeLine ∧ Q .non (upd H l (.lst (xs ++ zs)))) : rExtend (.ref l) [.ref b] H Q := ⟨l, b, xs, zs, rfl, rfl, h1, h2, q⟩
end
end HS
/-! Lists of new pairs of ints, and == of such; ranges by steps. -/
namespace HS
open PySem PySem.Spec PyProof.Rows L2
/-- the refs of vs are tuples of these pairs -/
def Prs (H : Hp) : List V → List (Int × Int) → Prop
  | [], [] => True
  | v :: vs, p :: ps => (∃ t, v = .ref t ∧ H t = some (.tup [.int p.1, .int p.2])) ∧ Prs H vs ps
  | _, _ => False
theorem Prs.keep {S : Addr → Prop} {H H' : Hp} (k : Keep S H H') : ∀ {vs : List V} {ps : List (Int × Int)}, Prs H vs ps → (∀ v ∈ vs, ∀ t, v = .ref t → ¬ S t) → Prs H' vs ps
  | [], [], h, _ => h
  | _ :: _, _ :: _, ⟨⟨t, e, o⟩, h⟩, n => ⟨⟨t, e, k t _ o (n _ List.mem_cons_self t e)⟩, h.keep k fun v hv => n v (List.mem_cons_of_mem _ hv)⟩
theorem Prs.app {H : Hp} : ∀ {vs ws : List V} {ps qs : List (Int × Int)}, Prs H vs ps → Prs H ws qs → Prs H (vs ++ ws) (ps ++ qs)
  | [], _, [], _, _, g => g
  | _ :: _, _, _ :: _, _, ⟨a, h⟩, g => ⟨a, h.app g⟩
theorem Prs.len {H : Hp} : ∀ {vs : List V} {ps : List (Int × Int)}, Prs H vs ps → vs.length = ps.length
  | [], [], _ => rfl
  | _ :: _, _ :: _, ⟨_, h⟩ => by rw [List.length_cons, List.length_cons, h.len]
def dPr (p : Int × Int) : PyData := .tuple [.int p.1, .int p.2]
def dPrs (ps : List (Int × Int)) : PyData := .list (ps.map dPr)
section
variable {K : PySem.W.Frag} {H : Hp}
theorem dpAll_prs : ∀ {vs : List V} {ps : List (Int × Int)}, Prs H vs ps → DpAll K H vs (ps.map dPr)
  | [], [], _ => .nil
  | _ :: _, p :: _, ⟨⟨t, e, o⟩, h⟩ => .cons (by rw [e]; exact .tup (st o) (.cons (.int p.1) (.cons (.int p.2) .nil))) (dpAll_prs h)
theorem lay_prs : ∀ ps : List (Int × Int), PyData.canLayAll0 (ps.map dPr) = true
  | [] => rfl
  | p :: r => by rw [List.map_cons, PyData.canLayAll0, lay_prs r]; rfl
theorem dep_prs : ∀ ps : List (Int × Int), PyData.depthAll (ps.map dPr) ≤ 2
  | [] => by simp [PyData.depthAll]
  | p :: r => by
    have h := dep_prs r
    have h2 : (dPr p).depth ≤ 2 := by simp [dPr, PyData.depth, PyData.depthAll]
    rw [List.map_cons, PyData.depthAll]; omega
theorem sh_prs (ps : List (Int × Int)) : SeqAt.shaped (dPrs ps) = true := by
  have h1 := dep_prs ps
  have h2 : PyData.depth (dPrs ps) ≤ 64 := by unfold dPrs; rw [PyData.depth]; omega
  show (PyData.canLay0 (dPrs ps) && decide (PyData.depth (dPrs ps) ≤ 64)) = true
  rw [Bool.and_eq_true]
  exact ⟨by unfold dPrs; rw [PyData.canLay0]; exact lay_prs ps, decide_eq_true h2⟩
theorem eqv_pr (p q : Int × Int) : PyData.eqv (dPr p) (dPr q) = decide (p = q) := by
  unfold dPr
  rw [PyData.eqv, PyData.eqvAll, PyData.eqvAll, PyData.eqvAll, eqv_int, eqv_int]
  obtain ⟨a, b⟩ := p
  obtain ⟨c, d⟩ := q
  by_cases h : a = c <;> by_cases g : b = d <;> simp [h, g]
theorem eqvAll_prs : ∀ xs ys : List (Int × Int), PyData.eqvAll (xs.map dPr) (ys.map dPr) = decide (xs = ys)
  | [], [] => rfl
  | [], y :: ys => rfl
  | x :: xs, [] => rfl
  | x :: xs, y :: ys => by
    rw [List.map_cons, List.map_cons, PyData.eqvAll, eqv_pr, eqvAll_prs xs ys]
    by_cases h : x = y <;> by_cases g : xs = ys <;> simp [h, g]
/-- == of two lists of pairs of ints -/
theorem eqP {a b : Addr} {vs ws : List V} {xs ys : List (Int × Int)} {Q : VK} (h1 : SqL K H a vs) (g1 : Prs H vs xs) (h2 : SqL K H b ws) (g2 : Prs H ws ys) (q : Q (.bl (decide (xs = ys))) H) : rEqD K (.ref a) (.ref b) H Q := by
  refine ⟨dPrs xs, dPrs ys, .lst h1 (dpAll_prs g1), .lst h2 (dpAll_prs g2), sh_prs _, sh_prs _, ?_⟩
  rw [show PyData.eqv (dPrs xs) (dPrs ys) = decide (xs = ys) by unfold dPrs; rw [PyData.eqv]; exact eqvAll_prs xs ys]
  exact q
end
theorem RgC.up {j c : Int} (hc : 1 ≤ c) (hc2 : c < 2 ^ 30) (h0 : 0 ≤ j) (h1 : j < 2 ^ 61) : RgC 0 j c ((j + c - 1) / c).toNat := by
  have hn : 0 ≤ (j + c - 1) / c := Int.ediv_nonneg (by omega) (by omega)
  have e : Builtin.Range.rangeSize 0 j c = (j + c - 1) / c := by
    unfold Builtin.Range.rangeSize
    rw [if_pos (by omega)]
    split
    · rw [show j + c - 1 = (j - 0 - 1) + c * 1 by omega, Int.add_mul_ediv_left _ _ (by omega)]
    · rw [show j = 0 by omega, Int.ediv_eq_zero_of_lt (by omega) (by omega)]
  have hl : (j + c - 1) / c ≤ j + c := Int.le_trans (Int.ediv_le_self _ (by omega)) (by omega)
  refine ⟨by omega, by omega, ?_, by rw [e]; omega⟩
  unfold Builtin.Range.small
  rw [e]
  simp only [Builtin.Range.rangeFitsLong, Bool.and_eq_true, Bool.or_eq_true, decide_eq_true_eq, beq_iff_eq]
  rw [if_pos (show c > 0 by omega)]
  simp only [Bool.and_eq_true, decide_eq_true_eq]
  omega
end HS
namespace HS
open PySem PySem.Spec PyProof.Rows L2
section
variable {σ : L2.St} {H : Hp}
theorem rng3 {tl : TA} {R : It → Hp → Prop} (h : tl σ H fun vs H1 => ∃ (i j c : Int) (n : Nat), vs = [.int i, .int j, .int c] ∧ RgC i j c n ∧ R (Itc i c n) H1) : iRng3 tl σ H R := h
end
end HS
namespace HS
open PySem PySem.Spec PyProof.Rows L2
theorem Prs.new {H : Hp} {p : Addr} {o : HO} (hp : H p = none) {vs : List V} {ps : List (Int × Int)} (h : Prs H vs ps) : Prs (upd H p o) vs ps :=
  h.keep (S := fun _ => False) (Keep.new hp) fun _ _ _ _ z => z
theorem Prs.same {H H' : Hp} {vs : List V} {ps : List (Int × Int)} (h : Prs H vs ps) (k : Keep (fun _ => False) H H') : Prs H' vs ps :=
  h.keep (S := fun _ => False) k fun _ _ _ _ z => z
theorem Prs.lst {H : Hp} {L : Addr} {ws : List V} (hL : H L = some (.lst ws)) : ∀ {vs : List V} {ps : List (Int × Int)}, Prs H vs ps → ∀ v ∈ vs, ∀ t, v = .ref t → t ≠ L
  | [], [], _, _, hv, _, _ => absurd hv List.not_mem_nil
  | _ :: _, _ :: _, ⟨⟨t', e', o'⟩, h⟩, v, hv, t, e => by
    rcases List.mem_cons.mp hv with hv | hv
    · subst hv
      rw [e'] at e
      have := V.ref.inj e
      subst this
      intro z
      rw [z, hL] at o'
      cases o'
    · exact h.lst hL v hv t e
theorem Prs.put {H : Hp} {L : Addr} {ws : List V} {o : HO} (hL : H L = some (.lst ws)) {vs : List V} {ps : List (Int × Int)} (h : Prs H vs ps) : Prs (upd H L o) vs ps :=
  h.keep (S := fun a => a = L) (Keep.at Keep.refl rfl) (h.lst hL)
theorem Prs.snoc {H : Hp} {vs : List V} {ps : List (Int × Int)} {t : Addr} {a b : Int} (h : Prs H vs ps) (e : H t = some (.tup [.int a, .int b])) : Prs H (vs ++ [.ref t]) (ps ++ [(a, b)]) :=
  h.app ⟨⟨t, rfl, e⟩, trivial⟩
end HS
/-! Defs that are called while nothing is being shown (no repr stands on the stack), so that they may call repr of a list. -/
namespace HS
open PySem PySem.Spec PyProof.Rows L2
/-- a def's promise where no repr is under way -/
structure FnG (Pg : Program) (wd : World) (K : PySem.W.Frag) (mg : Str → Option Value) (base : Heap) (C : CXT) (n : Nat) (f : Addr) (fd : FuncData) (ps : List Str) (sp : Sp) : Prop where
  len : ∀ vs H Q E, sp vs H Q E → vs.length = ps.length
  go : ∀ (B : Around) (o : List Env) (s : Shared) (H : Hp) (ar : Args) (us : List Value) (vs : List V) (Q : VK) (E : XK), B.guards = some [] → Room n B → Env0 Pg wd K mg base B o s H →
    BindsTo s fd ar (ps.zip us) → Vals vs us → sp vs H Q E → codeAny (model Pg wd) B (.call (.ref f) ar) (CR C o Pg wd H s Q E) s
section
variable {Pg : Program} {wd : World} {K : PySem.W.Frag} {mg : Str → Option Value} {base : Heap} {C : CXT} {n : Nat} {f : Addr} {fd : FuncData} {ps : List Str} {sp : Sp}
/-- a finished body's end is the call's end -/
theorem g_end {N : List Str} {q : Str} {sc : Scope} {cd : Value} {B : Around} {o : List Env} {s : Shared} {H : Hp} {E : XK} {Q : VK} {x : Cx} (hx : x = cxOf C Pg wd K mg base N q sc f cd B o s H E) (fl : Flow) {s' : Shared} :
    SP x [] { nx := fun _ H' => Q .non H', rt := Q } fl s' → CR C o Pg wd H s Q E (.ok (.ret (match fl with | .ret v => v | _ => .none))) s' := by
  subst hx
  intro h
  cases fl
  case ret u => obtain ⟨v, st, H', J, rv, y⟩ := h; exact ⟨v, H', J.os, J.bare, J.base, J.hok, rv, y⟩
  case next => obtain ⟨st, H', J, y⟩ := h; exact ⟨.non, H', J.os, J.bare, J.base, J.hok, rfl, y⟩
  all_goals exact h.elim fun _ z => z.elim fun _ z => z.2.elim
theorem Fun.okG {x qn : Str} {st : Stmt} {N : List Str} (F : L2.Fun K x qn st f fd) (S : FnScope N ps (defScope st)) (len : ∀ vs H Q E, sp vs H Q E → vs.length = ps.length)
    (hb : ∀ (cd : Value) (B : Around) (o : List Env) (s : Shared) (H : Hp) (vs : List V) (Q : VK) (E : XK), B.guards = some [] → Room n (B.deeper (envOfC qn (defScope st) s.heap.objs.size f cd)) → sp vs H Q E →
      ∃ t, PSs (cxOf L2.CX0 Pg wd K mg base N qn (defScope st) f cd B o s H E).nox (defBody st) t ∧ t { nx := fun _ H' => Q .non H', rt := Q } (start N vs) H) : FnG Pg wd K mg base L2.CX0 (n + 1) f fd ps sp := by
  obtain ⟨_, _, _, _, _, _, cd, _, _, rfl, lk, hcd⟩ := F.ex
  refine ⟨len, fun B o s H ar us vs Q E hg hr e0 bd rv hs => ?_⟩
  have kin : K.In s.heap := e0.mod.kin.keeps fun b u e => (e0.bs b u e).1
  have kinds : ∀ y ∈ ps.zip us, (defScope st).names.lookup y.1 = some .local ∨ ((defScope st).names.lookup y.1 = some .cell ∧ ((cellsFrom (s.heap.objs.size + 1) (defScope st).names []).lookup y.1).isSome = true) := by
    rintro ⟨z, v⟩ hy
    exact (S.par z (List.of_mem_zip hy).1).elim .inl fun c => .inr ⟨c, PySem.W.cellsFrom_some _ _ _ (.inl c)⟩
  refine codeAny_call_function hr.depth (kin _ _ lk) rfl S.co S.gen rfl (PySem.W.codeRec_of kin hcd) (bd _ _ _ _ (wpAny_newFunctionEnv_cells S.kind kinds fun _ he s1 made => ?_))
  subst he
  obtain ⟨t, ht, hq⟩ := hb cd B o s H vs Q E hg (hr.deeper _) hs
  have start0 := inv_start (CX := L2.CX0) (E := E) (qual := qn) (cd := cd) (f := f) S hr.hd e0 (len _ _ _ _ hs) rv made
  exact ⟨(e0.mod.nolimit.keeps fun b u e => (e0.bs b u e).1).keeps made.toInCall.keep, codeAny_func (wpAny_mono (ht.nox.run [] s1 _ H _ start0 hq) (fun fl s' => g_end rfl fl) fun _ _ h => h)⟩
end
/-! ### calls -/
/-- the call of a def, whichever way its arguments come -/
theorem after_call {X : Cx} {C : CXT} {E : XK} {pins : List (Addr × Obj)} {σ : L2.St} {H : Hp} {s : Shared} {Q : VK} {f : Addr} {us : List Value} {kw : List (Str × Value)} (hx : Passes C X E) (I : Inv X pins σ H s)
    (h : codeAny (model X.prog X.w) X.A (.call (.ref f) ⟨us, kw⟩) (CR C X.stack X.prog X.w H s Q E) s) : wpAny (model X.prog X.w) X.A (call (.ref f) us kw) (EP X pins σ Q) X.xe s :=
  wpAny_call (codeAny_mono h fun r s' y => match r, y with
    | .error e, y => hx pins σ H s e s' I y
    | .ok (.ret _), y => I.after y)
/-- how a call with keywords binds, where the numbers of its arguments are written -/
structure KBX (K : PySem.W.Frag) (fd : FuncData) (ps : List Str) (n : Nat) (ks : List Str) (g : List Value → List Value → List Value) (gV : List V → List V → List V) : Prop where
  to : ∀ (s : Shared) (us ws : List Value), us.length = n → ws.length = ks.length → BindsTo s fd ⟨us, ks.zip ws⟩ (ps.zip (g us ws))
  rel : ∀ {vs : List V} {us : List Value} {zs : List V} {ws : List Value}, Vals vs us → Vals zs ws → Vals (gV vs zs) (g us ws)
def tCallN (n m : Nat) (sp : Sp) (gV : List V → List V → List V) (E : XK) (t tk : TA) : TE := fun σ H Q => t σ H fun vs H1 => tk σ H1 fun zs H2 => vs.length = n ∧ zs.length = m ∧ sp (gV vs zs) H2 Q E
theorem relAt : ∀ {vs : List V} {us : List Value} (_ : Vals vs us) (i : Nat), RelV (vs.getD i .non) (us.getD i .none)
  | [], _, r, i => by cases r; exact rfl
  | _ :: _, _, r, 0 => by cases r with | cons a _ => exact a
  | _ :: _, _, r, i + 1 => by cases r with | cons _ b => exact relAt b i
section
variable {X : Cx} {C : CXT} {n m : Nat} {f : Addr} {fd : FuncData} {ps ks : List Str} {sp : Sp} {E : XK} {x : Str} {p q : Pos} {e : Expr} {es : List Expr} {kws : List Keyword} {t tk : TA} {g : List Value → List Value → List Value} {gV : List V → List V → List V}
theorem pe_callG (hG : X.A.guards = some []) (F : FnG X.prog X.w X.K X.mg X.base C n f fd ps sp) (hr : Room n X.A) (gl : Gl X x) (mf : X.mg x = some (.ref f)) (kf : PySem.W.keepIn X.K (.ref f) = true) (bd : Binds X.K fd ps []) (hx : Passes C X E) (ha : PA X (e :: es) t)
    (h1 : (x == ("__debug__" : Str)) = false := by decide) (h2 : starEach (e :: es) X.env = (false, eval e X.env) :: starEach es X.env := by rfl) (h3 : (backTo q (starEach es X.env)).any (·.1) = false := by rfl) :
    PE X (.Call (.Name x p) (e :: es) [] q) (tCall sp [] E t) := by
  constructor
  intro pins s σ H Q I h
  refine wpAny_Call_Name_kw (ld_glob I gl mf (PySem.W.callWith_K (h₀ := X.base) I.ok.mod.kin kf (thn (ha.run q pins s σ H _ I h) fun us s1 ⟨vs, H1, I1, r, y⟩ => ⟨I1.kIn, ?_⟩) h2 h3) h1)
  have y : sp (vs ++ []) H1 Q E := y
  rw [List.append_nil] at y
  have hl : (us ++ []).length = ps.length := by rw [List.append_nil, ← r.length]; exact F.len _ _ _ _ y
  exact after_call hx I1 (F.go X.A X.stack s1 H1 _ (us ++ []) vs Q E hG hr I1.env0 (bd s1 us I1.kIn hl) (by rw [List.append_nil]; exact r) y)
/-- f(e, .., k = v, ..), f(k = v, ..) -/
theorem kw_to (hb : KBX X.K fd ps n ks g gV) {pins : List (Addr × Obj)} {σ : L2.St} {H : Hp} {s : Shared} {Q : VK} {vs zs : List V} {us ws : List Value}
    (run : ∀ (bs : List Value) (bv : List V), BindsTo s fd ⟨us, ks.zip ws⟩ (ps.zip bs) → Vals bv bs → sp bv H Q E → codeAny (model X.prog X.w) X.A (.call (.ref f) ⟨us, ks.zip ws⟩) (CR C X.stack X.prog X.w H s Q E) s)
    (hx : Passes C X E) (I : Inv X pins σ H s) (r : Vals vs us) (rz : Vals zs ws) (l1 : vs.length = n) (l2 : zs.length = ks.length) (y : sp (gV vs zs) H Q E) : wpAny (model X.prog X.w) X.A (call (.ref f) us (ks.zip ws)) (EP X pins σ Q) X.xe s :=
  after_call hx I (run _ _ (hb.to s us ws (by rw [← r.length]; exact l1) (by rw [← rz.length]; exact l2)) (hb.rel r rz) y)
theorem pe_kwG (hG : X.A.guards = some []) (F : FnG X.prog X.w X.K X.mg X.base C m f fd ps sp) (hr : Room m X.A) (gl : Gl X x) (mf : X.mg x = some (.ref f)) (kf : PySem.W.keepIn X.K (.ref f) = true) (hb : KBX X.K fd ps n ks g gV) (hx : Passes C X E) (ha : PA X (e :: es) t) (hk : PK X kws tk)
    (h0 : (backToKw q (keywordEach kws X.env)).all (·.1.isSome) = true := by rfl) (hks : (backToKw q (keywordEach kws X.env)).filterMap (·.1) = ks := by rfl) (h1 : (x == ("__debug__" : Str)) = false := by decide) (h2 : starEach (e :: es) X.env = (false, eval e X.env) :: starEach es X.env := by rfl)
    (h3 : ((backTo q (starEach (e :: es) X.env)).any (·.1) || (backToKw q (keywordEach kws X.env)).any (·.1.isNone)) = false := by rfl) : PE X (.Call (.Name x p) (e :: es) kws q) (tCallN n ks.length sp gV E t tk) := by
  constructor
  intro pins s σ H Q I h
  refine wpAny_Call_Name_kw (ld_glob I gl mf (PySem.W.callWith_KW (h₀ := X.base) I.ok.mod.kin kf h0 (thn (ha.run q pins s σ H _ I h) fun us s1 ⟨vs, H1, I1, r, y⟩ => thn (hk.run q pins s1 σ H1 _ I1 y) fun ws s2 ⟨zs, H2, I2, rz, l1, l2, y2⟩ => ⟨I2.kIn, ?_⟩) h3 h2) h1)
  rw [hks]
  exact kw_to hb (fun bs bv b1 b2 b3 => F.go X.A X.stack s2 H2 _ bs bv Q E hG hr I2.env0 b1 b2 b3) hx I2 r rz l1 l2 y2
theorem pe_kwG0 (hG : X.A.guards = some []) (F : FnG X.prog X.w X.K X.mg X.base C m f fd ps sp) (hr : Room m X.A) (gl : Gl X x) (mf : X.mg x = some (.ref f)) (kf : PySem.W.keepIn X.K (.ref f) = true) (hb : KBX X.K fd ps 0 ks g gV) (hx : Passes C X E) (hk : PK X kws tk)
    (h0 : (backToKw q (keywordEach kws X.env)).all (·.1.isSome) = true := by rfl) (hks : (backToKw q (keywordEach kws X.env)).filterMap (·.1) = ks := by rfl) (h1 : (x == ("__debug__" : Str)) = false := by decide)
    (h3 : ((backTo q (starEach [] X.env)).any (·.1) || (backToKw q (keywordEach kws X.env)).any (·.1.isNone)) = false := by rfl) : PE X (.Call (.Name x p) [] kws q) (tCallN 0 ks.length sp gV E tNil tk) := by
  constructor
  intro pins s σ H Q I h
  refine wpAny_Call_Name_kw (ld_glob I gl mf (PySem.W.callWith_KW0 (h₀ := X.base) I.ok.mod.kin kf h0 (thn (hk.run q pins s σ H _ I h) fun ws s2 ⟨zs, H2, I2, rz, l1, l2, y2⟩ => ⟨I2.kIn, ?_⟩) h3) h1)
  rw [hks]
  exact kw_to hb (fun bs bv b1 b2 b3 => F.go X.A X.stack s2 H2 _ bs bv Q E hG hr I2.env0 b1 b2 b3) hx I2 .nil rz rfl l2 y2
/-- the same of a def that may be called anywhere -/
theorem pe_kw (F : FnOk X.prog X.w X.K X.mg X.base C m f fd ps sp) (hr : Room m X.A) (gl : Gl X x) (mf : X.mg x = some (.ref f)) (kf : PySem.W.keepIn X.K (.ref f) = true) (hb : KBX X.K fd ps n ks g gV) (hx : Passes C X E) (ha : PA X (e :: es) t) (hk : PK X kws tk)
    (h0 : (backToKw q (keywordEach kws X.env)).all (·.1.isSome) = true := by rfl) (hks : (backToKw q (keywordEach kws X.env)).filterMap (·.1) = ks := by rfl) (h1 : (x == ("__debug__" : Str)) = false := by decide) (h2 : starEach (e :: es) X.env = (false, eval e X.env) :: starEach es X.env := by rfl)
    (h3 : ((backTo q (starEach (e :: es) X.env)).any (·.1) || (backToKw q (keywordEach kws X.env)).any (·.1.isNone)) = false := by rfl) : PE X (.Call (.Name x p) (e :: es) kws q) (tCallN n ks.length sp gV E t tk) := by
  constructor
  intro pins s σ H Q I h
  refine wpAny_Call_Name_kw (ld_glob I gl mf (PySem.W.callWith_KW (h₀ := X.base) I.ok.mod.kin kf h0 (thn (ha.run q pins s σ H _ I h) fun us s1 ⟨vs, H1, I1, r, y⟩ => thn (hk.run q pins s1 σ H1 _ I1 y) fun ws s2 ⟨zs, H2, I2, rz, l1, l2, y2⟩ => ⟨I2.kIn, ?_⟩) h3 h2) h1)
  rw [hks]
  exact kw_to hb (fun bs bv b1 b2 b3 => F.run X.A X.stack s2 H2 _ bs bv Q E hr I2.env0 b1 b2 b3) hx I2 r rz l1 l2 y2
theorem pe_kw0 (F : FnOk X.prog X.w X.K X.mg X.base C m f fd ps sp) (hr : Room m X.A) (gl : Gl X x) (mf : X.mg x = some (.ref f)) (kf : PySem.W.keepIn X.K (.ref f) = true) (hb : KBX X.K fd ps 0 ks g gV) (hx : Passes C X E) (hk : PK X kws tk)
    (h0 : (backToKw q (keywordEach kws X.env)).all (·.1.isSome) = true := by rfl) (hks : (backToKw q (keywordEach kws X.env)).filterMap (·.1) = ks := by rfl) (h1 : (x == ("__debug__" : Str)) = false := by decide)
    (h3 : ((backTo q (starEach [] X.env)).any (·.1) || (backToKw q (keywordEach kws X.env)).any (·.1.isNone)) = false := by rfl) : PE X (.Call (.Name x p) [] kws q) (tCallN 0 ks.length sp gV E tNil tk) := by
  constructor
  intro pins s σ H Q I h
  refine wpAny_Call_Name_kw (ld_glob I gl mf (PySem.W.callWith_KW0 (h₀ := X.base) I.ok.mod.kin kf h0 (thn (hk.run q pins s σ H _ I h) fun ws s2 ⟨zs, H2, I2, rz, l1, l2, y2⟩ => ⟨I2.kIn, ?_⟩) h3) h1)
  rw [hks]
  exact kw_to hb (fun bs bv b1 b2 b3 => F.run X.A X.stack s2 H2 _ bs bv Q E hr I2.env0 b1 b2 b3) hx I2 .nil rz rfl l2 y2
end
section
variable {σ : L2.St} {H : Hp} {Q : VK} {t tk : TA} {sp : Sp} {gV : List V → List V → List V} {E : XK} {n m : Nat}
theorem caln (h : t σ H fun vs H1 => tk σ H1 fun zs H2 => vs.length = n ∧ zs.length = m ∧ sp (gV vs zs) H2 Q E) : tCallN n m sp gV E t tk σ H Q := h
theorem lnn {a b c d : Nat} {A : Prop} (e : a = c) (f : b = d) (h : A) : a = c ∧ b = d ∧ A := ⟨e, f, h⟩
end
/-! ### repr -/
mutual
/-- data of ints below 2 ^ 200, bools, None, in lists and tuples -/
def tame : PyData → Bool
  | .none | .bool _ => true
  | .int i => decide (i.natAbs < 2 ^ 200)
  | .list ds | .tuple ds => tameAll ds
  | _ => false
def tameAll : List PyData → Bool
  | [] => true
  | d :: ds => tame d && tameAll ds
end
theorem tame_int {i : Int} (h : i.natAbs < 2 ^ 200) : i.natAbs.log2 < 200 := by
  by_cases z : i.natAbs = 0
  · rw [z]; decide
  · exact (Nat.log2_lt z).mpr h
mutual
theorem tame_ok : ∀ d : PyData, tame d = true → d.showable = true ∧ d.hasDict = false ∧ d.leavesShort 201 = true
  | .none, _ => ⟨rfl, rfl, rfl⟩
  | .bool _, _ => ⟨rfl, rfl, rfl⟩
  | .int i, h => by
    have h' := tame_int (of_decide_eq_true (by simpa only [tame] using h))
    refine ⟨by simp only [PyData.showable]; exact decide_eq_true (by omega), rfl, ?_⟩
    simp only [PyData.leavesShort]
    exact decide_eq_true (by show (Str.ofString (toString i)).length ≤ 201; rw [PySem.ofString_length]; exact PySem.int_text_length_le (by decide) h')
  | .str _, h => by simp [tame] at h
  | .dict _, h => by simp [tame] at h
  | .list ds, h => by
    have := tame_okAll ds (by simpa only [tame] using h)
    simpa only [PyData.showable, PyData.hasDict, PyData.leavesShort] using this
  | .tuple ds, h => by
    have := tame_okAll ds (by simpa only [tame] using h)
    simpa only [PyData.showable, PyData.hasDict, PyData.leavesShort] using this
theorem tame_okAll : ∀ ds : List PyData, tameAll ds = true → PyData.showableAll ds = true ∧ PyData.hasDictAll ds = false ∧ PyData.leavesShortAll 201 ds = true
  | [], _ => ⟨rfl, rfl, rfl⟩
  | d :: ds, h => by
    have h' : tame d = true ∧ tameAll ds = true := by simpa only [tameAll, Bool.and_eq_true] using h
    obtain ⟨a, b, c⟩ := tame_ok d h'.1
    obtain ⟨a', b', c'⟩ := tame_okAll ds h'.2
    simp only [PyData.showableAll, PyData.hasDictAll, PyData.leavesShortAll, a, b, c, a', b', c']
    decide
end
/-- repr of a list or a tuple -/
def rRepr (K : PySem.W.Frag) : List V → Hp → VK → Prop := fun vs H Q => ∃ a d, vs = [.ref a] ∧ Dp K H (.ref a) d ∧ tame d = true ∧ d.depth ≤ 60 ∧ d.bulk ≤ 60000 ∧ Q (.str d.shown) H
theorem krepr (K : PySem.W.Frag) {X : Cx} {k : Nat} (hG : X.A.guards = some []) (hr : Room k X.A) (h : X.K = K := by rfl) : CallR X (.builtin "repr") (rRepr K) := by
  subst h
  intro pins s σ H xs us Q I r hq
  obtain ⟨a, d, rfl, hd, ht, hdp, hb, q⟩ := hq
  obtain ⟨u, rfl, ru⟩ := vals1 r
  obtain rfl : u = Value.ref a := ru
  obtain ⟨as, rd⟩ := Dp.reads I d _ _ hd rfl
  obtain ⟨o1, o2, o3⟩ := tame_ok d ht
  have fits := PyData.shown_le_bulk 201 (by decide) d o3
  have un := hr.units
  refine repr_of_reads' rd o1 (PyData.noDict_hsm o2) hG (by omega) (fun _ _ e => e) (fun h' u tk hk => ⟨.str d.shown, H, ?_, ⟨u, rfl⟩, q⟩) (by rw [sizeLine_eq]; omega)
  exact I.kept hk
end HS
/-! The end of a proof whose law def is called while nothing is being shown. -/
namespace HS
open PySem PySem.Spec PyProof.Rows L2
section
variable {Pg : Program} {wd : World} {K : PySem.W.Frag} {mg mb : Str → Option Value} {C : CXT} {n : Nat} {fa a : Addr} {fd : FuncData} {x : Str} {sp : Sp} {s1 : Shared} {vs : List Value} {ns : List Int}
/-- what the caller's heap holds where the abstract heap tracks the script alone, or nothing -/
structure AtTop (Pg : Program) (wd : World) (K : PySem.W.Frag) (a : Addr) (ns : List Int) (s1 : Shared) (H : Hp) : Prop where
  only : Only H
  here : SqL K H a (ns.map V.int)
  hok : HOk Pg wd H s1.heap
  one : ∀ b, b ≠ a → H b = none
  out : H a = none ∨ K.lookup a = none
theorem top_run (T : AtTop Pg wd K a ns s1 H) (KX : K.In s1.heap) (g : s1.heap.Ns mainGlobals mg) (gb : s1.heap.Ns builtinsNs mb) (hb : ∀ y : Str, y ≠ "__name__" → mb y = bootBuiltins y) (lim : s1.heap.NoLimit) (hg : s1.gens = #[])
    (seq : ∃ o, s1.heap.get? a = some o ∧ ∃ us m, o.data = .seq us m) (hr : Room n callerA) (F : ∀ base : Heap, K.In base → base.Ns mainGlobals mg → FnG Pg wd K mg base C n fa fd [x] sp) (bd : ∀ (s : Shared) (u : Value), BindsTo s fd ⟨[u], []⟩ [(x, u)])
    (want : ∀ H : Hp, Only H → SqL K H a (ns.map V.int) → sp [.ref a] H (fun v _ => v = .bl true) fun _ _ _ => False) (noX : ∀ H e s', C [] H s1 (fun _ _ _ => False) e s' → False) :
    codeAny (model Pg wd) callerA (.call (.ref fa) ⟨[.ref a], []⟩) (fun r s' => r = .ok (.ret (.bool true)) ∧ OldK s1.heap s'.heap ∧ s'.os = s1.os ∧ AllBare s'.gens) s1 := by
  obtain ⟨oa, ea, us, m, da⟩ := seq
  -- the base: all but what is tracked
  have stays : ∀ {b : Addr} {o : Obj}, s1.heap.get? b = some o → (b = a → H a = none) → (hidT s1.heap H).get? b = some o := fun {b o} e h =>
    hidT_get e (by by_cases q : b = a; · subst q; exact h rfl
                   · exact T.one b q)
  have dict : ∀ {b : Addr} {f : Str → Option Value}, s1.heap.Ns b f → (hidT s1.heap H).Ns b f := by
    rintro b f ⟨o, es, ep, e, d, r⟩
    refine ⟨o, es, ep, stays e fun q => ?_, d, r⟩
    subst q
    rw [ea] at e
    cases e
    rw [da] at d
    cases d
  have kin : K.In (hidT s1.heap H) := fun b o e => stays (KX b o e) fun q => by
    subst q
    rcases T.out with h | h
    · exact h
    · rw [h] at e; cases e
  have md : Mod K mg (hidT s1.heap H) := ⟨kin, dict g, ⟨mb, dict gb, hb⟩, by obtain ⟨mc, l1, l2⟩ := lim; exact ⟨mc, dict l1, l2⟩⟩
  have e0 : Env0 Pg wd K mg (hidT s1.heap H) callerA [] s1 H := ⟨rfl, md, fun _ _ e => of_hidT e, Nat.le_of_eq (hidT_size _ _), trivial, nofun, T.hok, .of_eq hg⟩
  refine codeAny_mono ((F _ kin (dict g)).go callerA [] s1 H ⟨[.ref a], []⟩ [.ref a] [.ref a] _ _ rfl hr e0 (bd s1 (.ref a)) (.cons rfl .nil) (want H T.only T.here)) fun r s' y => ?_
  match r, y with
  | .error e, y => exact (noX H e s' y).elim
  | .ok (.ret u), y =>
    obtain ⟨v, H', os, bare, un, ok', rv, rfl⟩ := y
    obtain rfl : u = Value.bool true := rv
    refine ⟨rfl, OldK.of_keep fun b o e => ?_, os, bare⟩
    rcases T.only b with z | ⟨ob, xs, z⟩
    · exact un.keep b o e z nofun nofun
    · have t1 := (T.hok b _ z).1
      rw [e] at t1
      rw [Option.some.inj t1]
      exact (ok' b _ (un.frzs b ob _ z)).1
theorem top_at (KX : K.In s1.heap) (ha : s1.heap.get? a = some { cls := .type "list", data := .seq vs.toArray }) (hi : IntsAre vs ns) (hl : ns.length ≤ sizeLine) : ∃ H, AtTop Pg wd K a ns s1 H := by
  have rv := vals_ints hi
  by_cases hk : K.lookup a = none
  · refine ⟨fun b => if b = a then some (.frz { cls := .type "list", data := .seq vs.toArray } (.lst (ns.map V.int))) else none, fun b => ?_, .inl (.inr ⟨_, if_pos rfl⟩), fun b u z => ?_, fun b q => if_neg q, .inr hk⟩
    · by_cases q : b = a
      · exact .inr ⟨_, _, if_pos q⟩
      · exact .inl (if_neg q)
    · by_cases q : b = a
      · subst q
        rw [if_pos rfl] at z
        cases z
        exact ⟨ha, by rw [List.length_map]; exact hl, vs, _, rv, ha⟩
      · rw [if_neg q] at z
        cases z
  · obtain ⟨o, ho⟩ := Option.ne_none_iff_exists'.mp hk
    have e := KX a o ho
    rw [ha] at e
    cases e
    exact ⟨fun _ => none, fun _ => .inl rfl, .inr ⟨_, vs.toArray, _, ho, rfl, rfl, rfl, by rw [List.size_toArray, hi.length]; exact hl, by simpa using rv⟩, (fun _ _ z => nomatch z), fun _ _ => rfl, .inl rfl⟩
end
theorem walk_ofG {l : PySem.W.OpenLaw} {n k : Nat} {q : Program} {loose : List Str} {XP : (Str → Option Value) → Heap → Prop} {YP : World → Heap → Prop} {d : DefRec} {K : Params → PySem.W.Frag} {CX : World → CXT} {sp : World → Sp} {x : Str}
    (h1 : l.most = some n) (h2 : n ≤ sizeLine) (h3 : d.params.defaults = []) (hr : Room k callerA) (hY : ∀ (w : World) (h : Heap), YP w h → (K w.params).In h)
    (F : ∀ (w : World) (mg : Str → Option Value) (fa : Addr) (h : Heap), (K w.params).In h → h.Ns mainGlobals mg → mg d.name = some (.ref fa) → ∃ fd : FuncData, (∀ (s : Shared) (u : Value), BindsTo s fd ⟨[u], []⟩ [(x, u)]) ∧
      ∀ base : Heap, (K w.params).In base → base.Ns mainGlobals mg → FnG l.prog w (K w.params) mg base (CX w) k fa fd [x] (sp w))
    (want : ∀ (w : World) (H : Hp) (a : Addr) (ns : List Int), ns.length ≤ n → Only H → SqL (K w.params) H a (ns.map V.int) → sp w [.ref a] H (fun v _ => v = .bl true) fun _ _ _ => False)
    (noX : ∀ (w : World) (H : Hp) (s : Shared) (e : Value) (s' : Shared), CX w [] H s (fun _ _ _ => False) e s' → False) : PySem.W.WalkO q loose XP YP l.row.toRowW d [] (fun f vs => PySem.call f vs) :=
  Att.attach_call h1 h3 fun w _ s1 mg _ fa _ _ _ _ a vs ns G Y _ _ _ hm ho hi hl hg => by
    obtain ⟨fd, bd, hF⟩ := F w mg fa _ (hY w _ Y) G.T.g hm
    obtain ⟨H, T⟩ := top_at (Pg := l.prog) (wd := w) (hY w _ Y) ho hi (Nat.le_trans hl h2)
    exact top_run T (hY w _ Y) G.T.g G.T.b G.T.builtins G.T.nolimit hg ⟨_, ho, _, _, rfl⟩ hr hF bd (fun H o => want w H a ns hl o) fun H e s' => noX w H s1 e s'
end HS
/-! sorted of ints; lists in descending order. -/
namespace HS
open PySem PySem.Spec PyProof.Rows L2
section
variable {X : Cx} (K : PySem.W.Frag)
end
/-- in descending order -/
def desc (ls : List Int) : List Int := ls.mergeSort fun a b => decide (b ≤ a)
theorem desc_perm (ls : List Int) : (desc ls).Perm ls := List.mergeSort_perm ls _
theorem desc_pair (ls : List Int) : (desc ls).Pairwise (· ≥ ·) := by
  have h := List.pairwise_mergeSort (le := fun a b : Int => decide (b ≤ a)) (fun a b c h1 h2 => by simp only [decide_eq_true_eq] at *; omega) (fun a b => by simp only [Bool.or_eq_true, decide_eq_true_eq]; omega) ls
  exact h.imp fun h => by simpa using h
theorem same_desc : ∀ {xs ys : List Int}, xs.Perm ys → xs.Pairwise (· ≥ ·) → ys.Pairwise (· ≥ ·) → xs = ys
  | [], ys, p, _, _ => (List.nil_perm.mp p).symm ▸ rfl
  | x :: xs, [], p, _, _ => absurd (List.perm_nil.mp p) (by simp)
  | x :: xs, y :: ys, p, h1, h2 => by
    rw [List.pairwise_cons] at h1 h2
    have e : x = y := by
      have a := p.mem_iff.mp List.mem_cons_self
      have b := p.mem_iff.mpr (List.mem_cons_self (a := y) (l := ys))
      rcases List.mem_cons.mp a with a | a
      · exact a
      · rcases List.mem_cons.mp b with b | b
        · exact b.symm
        · have := h1.1 y b
          have := h2.1 x a
          omega
    subst e
    rw [same_desc (List.Perm.cons_inv p) h1.2 h2.2]
theorem desc_of {xs ys : List Int} (p : xs.Perm ys) (h : xs.Pairwise (· ≥ ·)) : xs = desc ys := same_desc (p.trans (desc_perm ys).symm) h (desc_pair ys)
theorem desc_rev {xs ys : List Int} (p : xs.Perm ys) (h : xs.Pairwise (· ≤ ·)) : xs.reverse = desc ys := desc_of ((List.reverse_perm xs).trans p) (List.pairwise_reverse.mpr h)
theorem desc_same {xs ys : List Int} (p : xs.Perm ys) : desc xs = desc ys := desc_of ((desc_perm xs).trans p) (desc_pair xs)
theorem desc_len (ls : List Int) : (desc ls).length = ls.length := (desc_perm ls).length_eq
theorem desc_mem {ls : List Int} {x : Int} : x ∈ desc ls ↔ x ∈ ls := (desc_perm ls).mem_iff
theorem desc_count (ls : List Int) (x : Int) : (desc ls).count x = ls.count x := (desc_perm ls).count_eq x
theorem desc_desc (ls : List Int) : desc (desc ls) = desc ls := desc_same (desc_perm ls)
/-- those greater than v -/
def above (ls : List Int) (v : Int) : List Int := (desc ls).filter fun x => decide (v < x)
theorem filter_none {ls : List Int} {v : Int} (h : ∀ x ∈ ls, x ≤ v) : (ls.filter fun x => decide (v < x)) = [] := by
  rw [List.filter_eq_nil_iff]
  intro x hx
  have := h x hx
  simp; omega
theorem filter_step : ∀ {D : List Int} (v : Int), D.Pairwise (· ≥ ·) → (D.filter fun x => decide (v < x)) = (D.filter fun x => decide (v + 1 < x)) ++ List.replicate (D.count (v + 1)) (v + 1)
  | [], _, _ => rfl
  | x :: r, v, h => by
    rw [List.pairwise_cons] at h
    have ih := filter_step v h.2
    by_cases c1 : v + 1 < x
    · rw [List.filter_cons_of_pos (by simp; omega), List.filter_cons_of_pos (by simp; omega), List.count_cons_of_ne (by omega), ih]
      rfl
    · have c3 : (r.filter fun x => decide (v + 1 < x)) = [] := filter_none fun y hy => by have := h.1 y hy; omega
      rw [List.filter_cons_of_neg (a := x) (p := fun x => decide (v + 1 < x)) (by simp; omega), c3]
      rw [c3] at ih
      by_cases c2 : x = v + 1
      · subst c2
        rw [List.filter_cons_of_pos (p := fun x => decide (v < x)) (decide_eq_true (show v < v + 1 by omega)), List.count_cons_self, ih, List.replicate_succ]
        rfl
      · rw [List.filter_cons_of_neg (by simp; omega), List.count_cons_of_ne (by omega), ih]
theorem above_step (ls : List Int) (v : Int) : above ls v = above ls (v + 1) ++ List.replicate (ls.count (v + 1)) (v + 1) := by
  unfold above; rw [filter_step v (desc_pair ls), desc_count]
theorem above_top {ls : List Int} {v : Int} (h : ∀ x ∈ ls, x ≤ v) : above ls v = [] := filter_none fun x hx => h x (desc_mem.mp hx)
theorem above_all {ls : List Int} (h : ∀ x ∈ ls, 1 ≤ x) : above ls 0 = desc ls := by
  unfold above
  rw [List.filter_eq_self]
  intro x hx
  have := h x (desc_mem.mp hx)
  simp; omega
theorem above_le (ls : List Int) (v : Int) : (above ls v).length ≤ ls.length := by
  rw [← desc_len ls]; exact List.length_filter_le _ _
theorem at_last {xs ys : List V} {v : V} (h : xs = ys ++ [v]) : atI xs (-1) = some v := by
  rw [h]
  unfold atI ixN
  rw [if_neg (by omega), List.length_append, List.length_singleton]
  rw [if_pos (by push_cast; omega)]
  show (ys ++ [v])[_]? = _
  rw [show (-1 + ((ys.length + 1 : Nat) : Int)).toNat = ys.length by omega]
  simp
theorem desc_nil : desc [] = [] := by
  have := desc_perm []
  exact List.perm_nil.mp this
end HS
namespace HS
open PySem PySem.Spec PyProof.Rows L2
/-- sorted(b)[::-1] -/
def revQ (K : PySem.W.Frag) (Q : VK) : VK := fun x H1 => ∃ a xs, x = .ref a ∧ SqL K H1 a xs ∧ ∀ p, H1 p = none → Q (.ref p) (upd H1 p (.lst xs.reverse))
def srvQ (K : PySem.W.Frag) (Q : VK) : List V → Hp → Prop := fun vs H1 => ∃ b ls, vs = [.ref b] ∧ SqL K H1 b (ls.map V.int) ∧ ∀ H' p, Keep (fun _ => False) H1 H' → H1 p = none → H' p = some (.lst ((desc ls).map V.int)) → Q (.ref p) H'
def tSrv (K : PySem.W.Frag) (tl : TA) : TE := fun σ H Q => tl σ H (srvQ K Q)
theorem pe_srv (K : PySem.W.Frag) {X : Cx} {E C : Expr} {tl : TA} (h : ∀ r, CallR X (.builtin "sorted") r → PE X C (tCB r tl)) (rev : ∀ te, PE X C te → PE X E (tRevL X.K te)) (hK : X.K = K := by rfl) : PE X E (tSrv K tl) := by
  subst hK
  refine ⟨fun pins s σ H Q I hq => ?_⟩
  refine (rev _ (h (fun vs H1 Q' => srvQ X.K Q vs H1 ∧ Q' = revQ X.K Q) ?_)).run pins s σ H Q I ?_
  · intro pins s σ H xs us Q' I r h2
    obtain ⟨⟨b, ls, e, hs, k⟩, rfl⟩ := h2
    refine cr_sortedI pins s σ H xs us _ I r ⟨b, ls, e, hs, fun us p hperm hpair hp => ⟨_, _, rfl, HS.sq upd_same, fun q hq => ?_⟩⟩
    have K1 : Keep (fun _ => False) H (upd H p (.lst (us.map V.int))) := Keep.new hp
    rw [← List.map_reverse, desc_rev hperm hpair]
    exact k _ q (K1.nw hq) (K1.free hq id) upd_same
  · show tl σ H fun vs H1 => srvQ X.K Q vs H1 ∧ revQ X.K Q = revQ X.K Q
    have e : (fun vs H1 => srvQ X.K Q vs H1 ∧ revQ X.K Q = revQ X.K Q) = srvQ X.K Q := by
      funext vs H1
      exact propext ⟨fun z => z.1, fun z => ⟨z, rfl⟩⟩
    rw [e]
    exact hq
theorem srv {K : PySem.W.Frag} {tl : TA} {σ : L2.St} {H : Hp} {Q : VK} (h : tl σ H fun vs H1 => ∃ b ls, vs = [.ref b] ∧ SqL K H1 b (ls.map V.int) ∧ ∀ H' p, Keep (fun _ => False) H1 H' → H1 p = none → H' p = some (.lst ((desc ls).map V.int)) → Q (.ref p) H') : tSrv K tl σ H Q := h
end HS
namespace HS
open PySem PySem.Spec PyProof.Rows L2
/-- in ascending order -/
def asc (ls : List Int) : List Int := (desc ls).reverse
theorem asc_perm (ls : List Int) : (asc ls).Perm ls := (List.reverse_perm _).trans (desc_perm ls)
theorem asc_of {xs ys : List Int} (p : xs.Perm ys) (h : xs.Pairwise (· ≤ ·)) : xs = asc ys := by
  unfold asc; rw [← desc_rev p h, List.reverse_reverse]
theorem asc_pair (ls : List Int) : (asc ls).Pairwise (· ≤ ·) := by
  unfold asc
  rw [List.pairwise_reverse]
  exact desc_pair ls
theorem asc_len (ls : List Int) : (asc ls).length = ls.length := (asc_perm ls).length_eq
theorem asc_mem {ls : List Int} {x : Int} : x ∈ asc ls ↔ x ∈ ls := (asc_perm ls).mem_iff
theorem asc_inj {xs ys : List Int} : asc xs = asc ys ↔ desc xs = desc ys := List.reverse_inj
def rAsc (K : PySem.W.Frag) : List V → Hp → VK → Prop := fun vs H Q => ∃ b ls, vs = [.ref b] ∧ SqL K H b (ls.map V.int) ∧ ∀ H' p, Keep (fun _ => False) H H' → H p = none → H' p = some (.lst ((asc ls).map V.int)) → Q (.ref p) H'
def rDesc (K : PySem.W.Frag) : List V → List V → Hp → VK → Prop := fun vs zs H Q => ∃ b ls, vs = [.ref b] ∧ zs = [.bl true] ∧ SqL K H b (ls.map V.int) ∧ ∀ H' p, Keep (fun _ => False) H H' → H p = none → H' p = some (.lst ((desc ls).map V.int)) → Q (.ref p) H'
section
variable {X : Cx} (K : PySem.W.Frag)
theorem ksort (h : X.K = K := by rfl) : CallR X (.builtin "sorted") (rAsc K) := by
  subst h
  intro pins s σ H xs us Q I r ⟨b, ls, e, hs, k⟩
  exact cr_sortedI pins s σ H xs us Q I r ⟨b, ls, e, hs, fun us p hperm hpair hp => k _ p (Keep.new hp) hp (by rw [upd_same, asc_of hperm hpair])⟩
theorem ksortR (h : X.K = K := by rfl) : CallRK X (.builtin "sorted") [Str.ofString "reverse"] (rDesc K) := by
  subst h
  intro pins s σ H xs zs us ws Q I r rz ⟨b, ls, e, ez, hs, k⟩
  exact cr_sortedRev (b := true) pins s σ H xs zs us ws Q I r rz ⟨b, ls, e, ez, hs, fun us p hperm hpair hp => k _ p (Keep.new hp) hp (by rw [upd_same, desc_of hperm hpair])⟩
theorem kiz {tg l : Expr} {tl : TA} (p : PI X tg l (iZip X.K tl)) (h : X.K = K := by rfl) : PI X tg l (iZip K tl) := h ▸ p
theorem kcnt (h : X.K = K := by rfl) : MtR X "list.count" (rCntI K) := h ▸ mt_lcount
theorem korT {E : Expr} {ta tb : TE} (p : PE X E (tOrT X.K ta tb)) (h : X.K = K := by rfl) : PE X E (tOrT K ta tb) := h ▸ p
end
section
variable {σ : L2.St} {H : Hp} {Q : VK} {K : PySem.W.Frag}
theorem ckw {r : List V → List V → Hp → VK → Prop} {t tk : TA} (h : t σ H fun vs H1 => tk σ H1 fun zs H2 => r vs zs H2 Q) : tCKw r t tk σ H Q := h
theorem izip {tl : TA} {R : It → Hp → Prop} (h : tl σ H fun vs H1 => ∃ a b xs ys, vs = [.ref a, .ref b] ∧ SqL K H1 a xs ∧ SqL K H1 b ys ∧ R (Itz K a b) H1) : iZip K tl σ H R := h
theorem lcn {p : Addr} {ns : List Int} {k : Int} (h : SqL K H p (ns.map V.int)) (q : Q (.int (ns.count k : Nat)) H) : rCntI K (.ref p) [.int k] H Q := ⟨p, ns, k, rfl, rfl, h, q⟩
theorem orT {ta tb : TE} (h : ta σ H fun x H1 => ∃ k, TruV K x H1 k ∧ if k = true then Q x H1 else tb σ H1 Q) : tOrT K ta tb σ H Q := h
end
end HS
/-! Powers of great numbers, [x] * n. -/
namespace HS
open PySem PySem.Spec PyProof.Rows L2
def CPowW (i j : Int) : Prop := 0 ≤ j ∧ (Builtin.Int.intBits i : Int) * j ≤ 2 ^ 27
section
variable {X : Cx} {σ : L2.St} {H : Hp} {Q : VK}
theorem op_powW : OpR X (binaryOp .Pow) (rI CPowW fun i j => .int (i ^ j.toNat)) := opI fun _ _ _ _ _ _ _ hc q => pow_int hc.1 hc.2 q
theorem bits_le {i : Int} (k : Nat) (h0 : 0 ≤ i) (h : i < 2 ^ k) : Builtin.Int.intBits i ≤ k := by
  unfold Builtin.Int.intBits
  by_cases z : i = 0
  · subst z; exact Nat.zero_le _
  · rw [if_neg (by simpa using z)]
    have z' : i.natAbs ≠ 0 := by omega
    have : i.natAbs.log2 < k := (Nat.log2_lt z').mpr (by
      have : ((i.natAbs : Nat) : Int) < ((2 ^ k : Nat) : Int) := by rw [Int.natAbs_of_nonneg h0]; simpa using h
      exact Int.ofNat_lt.mp this)
    omega
theorem powW {i : Int} (k : Nat) {j : Int} (h0 : 0 ≤ i) (h : i < 2 ^ k) (hj : 0 ≤ j) (hk : (k : Int) * j ≤ 2 ^ 27) : CPowW i j := by
  refine ⟨hj, Int.le_trans (Int.mul_le_mul_of_nonneg_right ?_ hj) hk⟩
  exact Int.ofNat_le.mpr (bits_le k h0 h)
theorem flat_one {v : V} : ∀ n : Nat, (List.replicate n [v]).flatten = List.replicate n v
  | 0 => rfl
  | n + 1 => by rw [List.replicate_succ, List.flatten_cons, flat_one n]; rfl
theorem rep1 {p : Addr} {v : V} {k : Int} (h : H p = some (.lst [v])) (hk : k ≤ 1000000) (h0 : 0 ≤ k) (q : ∀ p, H p = none → Q (.ref p) (upd H p (.lst (List.replicate k.toNat v)))) : rRep (.ref p) (.int k) H Q := by
  refine ⟨p, k, _, rfl, rfl, h, by omega, by omega, ?_, fun p hp => ?_⟩
  · rw [List.length_singleton, sizeLine_eq]; omega
  · rw [flat_one]; exact q p hp
end
end HS
/-! Lists of new triples of ints. -/
namespace HS
open PySem PySem.Spec PyProof.Rows L2
/-- the refs of vs are tuples of these triples -/
def Tri (H : Hp) : List V → List (Int × Int × Int) → Prop
  | [], [] => True
  | v :: vs, p :: ps => (∃ t, v = .ref t ∧ H t = some (.tup [.int p.1, .int p.2.1, .int p.2.2])) ∧ Tri H vs ps
  | _, _ => False
theorem Tri.keep {S : Addr → Prop} {H H' : Hp} (k : Keep S H H') : ∀ {vs : List V} {ps : List (Int × Int × Int)}, Tri H vs ps → (∀ v ∈ vs, ∀ t, v = .ref t → ¬ S t) → Tri H' vs ps
  | [], [], h, _ => h
  | _ :: _, _ :: _, ⟨⟨t, e, o⟩, h⟩, n => ⟨⟨t, e, k t _ o (n _ List.mem_cons_self t e)⟩, h.keep k fun v hv => n v (List.mem_cons_of_mem _ hv)⟩
theorem Tri.same {H H' : Hp} {vs : List V} {ps : List (Int × Int × Int)} (h : Tri H vs ps) (k : Keep (fun _ => False) H H') : Tri H' vs ps := h.keep k fun _ _ _ _ z => z
theorem Tri.app {H : Hp} : ∀ {vs ws : List V} {ps qs : List (Int × Int × Int)}, Tri H vs ps → Tri H ws qs → Tri H (vs ++ ws) (ps ++ qs)
  | [], _, [], _, _, g => g
  | _ :: _, _, _ :: _, _, ⟨a, h⟩, g => ⟨a, h.app g⟩
theorem Tri.len {H : Hp} : ∀ {vs : List V} {ps : List (Int × Int × Int)}, Tri H vs ps → vs.length = ps.length
  | [], [], _ => rfl
  | _ :: _, _ :: _, ⟨_, h⟩ => by rw [List.length_cons, List.length_cons, h.len]
theorem Tri.at {H : Hp} : ∀ {vs : List V} {ps : List (Int × Int × Int)}, Tri H vs ps → ∀ {i : Nat} {v : V}, vs[i]? = some v → ∃ t p, v = .ref t ∧ ps[i]? = some p ∧ H t = some (.tup [.int p.1, .int p.2.1, .int p.2.2])
  | [], [], _, i, v, hv => by simp at hv
  | _ :: _, p :: _, ⟨⟨t, e, o⟩, _⟩, 0, v, hv => by
    cases hv
    exact ⟨t, p, e, rfl, o⟩
  | _ :: _, _ :: _, ⟨_, h⟩, i + 1, v, hv => h.at (i := i) hv
theorem Tri.split {H : Hp} : ∀ {vs : List V} {ps : List (Int × Int × Int)} {p : Int × Int × Int}, Tri H vs (ps ++ [p]) → ∃ us t, vs = us ++ [.ref t] ∧ Tri H us ps ∧ H t = some (.tup [.int p.1, .int p.2.1, .int p.2.2])
  | [], ps, p, h => by cases ps <;> exact h.elim
  | v :: vs, [], p, ⟨⟨t, e, o⟩, h⟩ => by
    cases vs with
    | nil => exact ⟨[], t, by rw [e]; rfl, trivial, o⟩
    | cons _ _ => exact h.elim
  | v :: vs, q :: ps, p, ⟨a, h⟩ => by
    obtain ⟨us, t, e, g, o⟩ := h.split
    exact ⟨v :: us, t, by rw [e]; rfl, ⟨a, g⟩, o⟩
theorem Tri.lst {H : Hp} {L : Addr} {ws : List V} (hL : H L = some (.lst ws)) : ∀ {vs : List V} {ps : List (Int × Int × Int)}, Tri H vs ps → ∀ v ∈ vs, ∀ t, v = .ref t → t ≠ L
  | [], [], _, v, hv => by cases hv
  | w :: vs, p :: ps, ⟨⟨t, e, o⟩, h⟩, v, hv => fun u eu z => by
    rcases List.mem_cons.mp hv with hv | hv
    · subst hv
      rw [e] at eu
      cases eu
      rw [z, hL] at o
      cases o
    · exact h.lst hL v hv u eu z
theorem Tri.put {H : Hp} {L : Addr} {ws : List V} {o : HO} (hL : H L = some (.lst ws)) {vs : List V} {ps : List (Int × Int × Int)} (h : Tri H vs ps) : Tri (upd H L o) vs ps :=
  h.keep (S := fun a => a = L) (HS.Keep.at HS.Keep.refl rfl) (Tri.lst hL h)
theorem atLst {xs ys : List V} {v : V} (h : xs = ys ++ [v]) : atI xs (-1) = some v := by
  subst h
  unfold atI ixN
  rw [if_neg (by decide), if_pos (by rw [List.length_append, List.length_singleton]; omega)]
  show (ys ++ [v])[((-1 : Int) + (ys ++ [v]).length).toNat]? = some v
  rw [List.length_append, List.length_singleton, show ((-1 : Int) + ((ys.length + 1 : Nat) : Int)).toNat = ys.length by omega, List.getElem?_append_right (Nat.le_refl _), Nat.sub_self]
  rfl
theorem setLst {p : Addr} {ys : List V} {v w : V} {H : Hp} {q : Hp → Prop} (h : H p = some (.lst (ys ++ [v]))) (g : q (upd H p (.lst (ys ++ [w])))) : rSetL (.ref p) (.int (-1)) w H q := by
  refine HS.setL h (j := ys.length) ?_ ?_
  · unfold ixN
    rw [if_neg (by decide), if_pos (by rw [List.length_append, List.length_singleton]; omega)]
    congr 1
    rw [List.length_append, List.length_singleton]
    omega
  · rw [List.set_append_right _ _ (Nat.le_refl _), Nat.sub_self]
    exact g
end HS
/-! math.comb of great numbers. -/
namespace HS
open PySem PySem.Spec PyProof.Rows L2
def binC : Nat → Nat → Nat
  | _, 0 => 1
  | 0, _ + 1 => 0
  | n + 1, k + 1 => binC n k + binC n (k + 1)
theorem binC_0 (n : Nat) : binC n 0 = 1 := by cases n <;> rfl
theorem binC_above : ∀ (n k : Nat), n < k → binC n k = 0
  | 0, k + 1, _ => rfl
  | n + 1, k + 1, h => by
    show binC n k + binC n (k + 1) = 0
    rw [binC_above n k (by omega), binC_above n (k + 1) (by omega)]
theorem binC_self : ∀ n, binC n n = 1
  | 0 => rfl
  | n + 1 => by show binC n n + binC n (n + 1) = 1; rw [binC_self n, binC_above n (n + 1) (by omega)]
/-- (k + 1) times the next is (n - k) times this -/
theorem binC_next : ∀ (n k : Nat), (k + 1) * binC n (k + 1) = (n - k) * binC n k
  | 0, k => by
    rw [show binC 0 (k + 1) = 0 from rfl, Nat.mul_zero, Nat.zero_sub, Nat.zero_mul]
  | n + 1, 0 => by
    have this : (0 + 1) * binC n 1 = (n - 0) * binC n 0 := binC_next n 0
    show (0 + 1) * (binC n 0 + binC n 1) = (n + 1 - 0) * binC (n + 1) 0
    rw [binC_0] at this
    rw [binC_0, binC_0]
    omega
  | n + 1, k + 1 => by
    have h1 := binC_next n k
    have h2 := binC_next n (k + 1)
    show (k + 1 + 1) * (binC n (k + 1) + binC n (k + 1 + 1)) = (n + 1 - (k + 1)) * (binC n k + binC n (k + 1))
    rw [Nat.mul_add, h2, show n + 1 - (k + 1) = n - k by omega, Nat.mul_add, ← h1]
    rcases Nat.lt_or_ge k n with h | h
    · rw [show n - k = (n - (k + 1)) + 1 by omega, Nat.add_mul, Nat.add_mul, Nat.add_mul]
      omega
    · rw [binC_above n (k + 1) (by omega)]; simp
theorem binC_sym : ∀ (a b : Nat), binC (a + b) a = binC (a + b) b
  | 0, b => by rw [binC_0, Nat.zero_add, binC_self]
  | a + 1, 0 => by rw [binC_0, Nat.add_zero, binC_self]
  | a + 1, b + 1 => by
    have h1 := binC_sym a (b + 1)
    have h2 := binC_sym (a + 1) b
    rw [show a + (b + 1) = a + 1 + b by omega] at h1
    show binC (a + 1 + b) a + binC (a + 1 + b) (a + 1) = binC (a + 1 + b) b + binC (a + 1 + b) (b + 1)
    rw [h1, h2, Nat.add_comm]
def fctC : Nat → Nat
  | 0 => 1
  | n + 1 => (n + 1) * fctC n
theorem fctC_pos : ∀ n, 0 < fctC n
  | 0 => Nat.one_pos
  | n + 1 => Nat.mul_pos (Nat.succ_pos n) (fctC_pos n)
theorem fall_eq (n : Nat) : ∀ k, k ≤ n → Builtin.Math.fallingProduct (n : Int) k = ((binC n k * fctC k : Nat) : Int)
  | 0, _ => by rw [binC_0]; rfl
  | k + 1, h => by
    have ih := fall_eq n k (by omega)
    unfold Builtin.Math.fallingProduct at ih ⊢
    rw [List.range_succ, List.foldl_append, ih]
    show ((binC n k * fctC k : Nat) : Int) * ((n : Int) - (k : Nat)) = _
    have e : binC n (k + 1) * fctC (k + 1) = binC n k * fctC k * (n - k) := by
      show binC n (k + 1) * ((k + 1) * fctC k) = _
      rw [← Nat.mul_assoc, Nat.mul_comm (binC n (k + 1)), binC_next, Nat.mul_comm (n - k), Nat.mul_assoc, Nat.mul_assoc, Nat.mul_comm (n - k)]
    rw [e, show (n : Int) - (k : Nat) = ((n - k : Nat) : Int) by omega]
    push_cast
    rfl
theorem fall_div (n k : Nat) (h : k ≤ n) : Builtin.Math.fallingProduct (n : Int) k / Builtin.Math.fallingProduct (k : Int) k = ((binC n k : Nat) : Int) := by
  rw [fall_eq n k h, fall_eq k k (Nat.le_refl _), binC_self, Nat.one_mul, Int.natCast_mul]
  exact Int.mul_ediv_cancel _ (by have := fctC_pos k; omega)
theorem binC_pow : ∀ (n k : Nat), binC n k ≤ (n + 1) ^ k
  | n, 0 => by rw [binC_0]; exact Nat.le_refl _
  | 0, k + 1 => Nat.zero_le _
  | n + 1, k + 1 => by
    have h1 := binC_pow n k
    have h2 := binC_pow n (k + 1)
    show binC n k + binC n (k + 1) ≤ _
    have a : (n + 1) ^ k ≤ (n + 2) ^ k := Nat.pow_le_pow_left (by omega) k
    have b : (n + 1) ^ (k + 1) = (n + 1) ^ k * (n + 1) := Nat.pow_succ _ _
    have c : (n + 1 + 1) ^ (k + 1) = (n + 2) ^ k * (n + 2) := Nat.pow_succ _ _
    have d : (n + 1) ^ k * (n + 1) ≤ (n + 2) ^ k * (n + 1) := Nat.mul_le_mul_right _ a
    rw [c, show (n + 2) ^ k * (n + 2) = (n + 2) ^ k * (n + 1) + (n + 2) ^ k by rw [← Nat.mul_succ]]
    omega
def rComb : List V → Hp → VK → Prop := fun vs H Q => ∃ a b : Nat, vs = [.int (a : Int), .int (b : Int)] ∧ b ≤ a ∧ b ≤ 120 ∧ a < 2 ^ 250 ∧ Q (.int (binC a b : Nat)) H
theorem cr_comb {X : Cx} : CallR X (.builtin "math.comb") rComb := by
  intro pins s σ H xs us Q I r ⟨a, b, e, hba, hb, ha, k⟩
  subst e
  obtain ⟨u, v, rfl, ru, rv⟩ : ∃ u v, us = [u, v] ∧ RelV (.int (a : Int)) u ∧ RelV (.int (b : Int)) v := by
    cases r with
    | cons r1 r2 =>
      cases r2 with
      | cons r3 r4 =>
        cases r4
        exact ⟨_, _, rfl, r1, r3⟩
  obtain ⟨t, rfl⟩ := ru
  obtain ⟨t', rfl⟩ := rv
  have hm : (min (b : Int) ((a : Int) - b)).toNat ≤ b ∧ binC a (min (b : Int) ((a : Int) - b)).toNat = binC a b ∧ (min (b : Int) ((a : Int) - b)).toNat ≤ a := by
    rw [Int.min_def]
    split
    · exact ⟨by rw [Int.toNat_natCast]; exact Nat.le_refl _, by rw [Int.toNat_natCast], by rw [Int.toNat_natCast]; exact hba⟩
    · have e : ((a : Int) - b).toNat = a - b := by omega
      rw [e]
      have s := binC_sym (a - b) b
      rw [show a - b + b = a by omega] at s
      exact ⟨by omega, s, by omega⟩
  obtain ⟨m1, m2, m3⟩ := hm
  have mi : min (b : Int) ((a : Int) - b) = (((min (b : Int) ((a : Int) - b)).toNat : Nat) : Int) := by
    rw [Int.min_def]; split <;> omega
  have fd : Builtin.Math.fallingProduct (a : Int) (min (b : Int) ((a : Int) - b)).toNat / Builtin.Math.fallingProduct (min (b : Int) ((a : Int) - b)) (min (b : Int) ((a : Int) - b)).toNat = ((binC a b : Nat) : Int) := by
    have := fall_div a _ m3
    rw [← mi, m2] at this
    exact this
  have lg : (((binC a b : Nat) : Int)).natAbs.log2 < bitsLine := by
    rw [Int.natAbs_natCast]
    by_cases z : binC a b = 0
    · rw [z]; decide
    · refine (Nat.log2_lt z).mpr (Nat.lt_of_le_of_lt (binC_pow a b) ?_)
      have p1 : (a + 1) ^ b ≤ (2 ^ 250) ^ b := Nat.pow_le_pow_left (by omega) b
      rw [← Nat.pow_mul] at p1
      have p2 : 2 ^ (250 * b) < 2 ^ bitsLine := Nat.pow_lt_pow_right (by decide) (by
        have : bitsLine = 134217728 := by decide
        omega)
      omega
  have mx : (b : Int) ≤ 120 := by omega
  have mn : min (b : Int) ((a : Int) - b) ≤ 120 := by rw [Int.min_def]; split <;> omega
  have g := PySem.W.mc_run_comb (a : Int) t (b : Int) t' (by omega) (by omega) (by omega) (by unfold Builtin.Math.maxSsize; omega) (by unfold Builtin.Math.manyFactors; omega) (by omega) (by rw [fd]; exact lg)
  rw [fd] at g
  refine PySem.Flt.call_fn_gives (b := PySem.Builtin.«math.comb») (m := .int ((binC a b : Nat) : Int)) PySem.W.MGF.kind_comb PySem.W.MGF.plain_comb PySem.W.MGF.entry_comb (PySem.W.MGF.args_comb _ _) g ?_
  exact ⟨.int _, H, I.tok _, ⟨_, rfl⟩, k⟩
end HS
namespace HS
open PySem PySem.Spec PyProof.Rows L2
theorem Prs.at {H : Hp} : ∀ {vs : List V} {ps : List (Int × Int)}, Prs H vs ps → ∀ {i : Nat} {v : V}, vs[i]? = some v → ∃ t p, v = .ref t ∧ ps[i]? = some p ∧ H t = some (.tup [.int p.1, .int p.2])
  | [], [], _, i, v, hv => by simp at hv
  | _ :: _, p :: _, ⟨⟨t, e, o⟩, _⟩, 0, v, hv => by
    cases hv
    exact ⟨t, p, e, rfl, o⟩
  | _ :: _, _ :: _, ⟨_, h⟩, i + 1, v, hv => Prs.at h (i := i) hv
theorem Prs.setAt {H : Hp} {q : Addr} {p : Int × Int} (hq : H q = some (.tup [.int p.1, .int p.2])) : ∀ {vs : List V} {ps : List (Int × Int)} {i : Nat}, Prs H vs ps → Prs H (vs.set i (.ref q)) (ps.set i p)
  | [], [], _, _ => trivial
  | _ :: _, _ :: _, 0, ⟨_, h⟩ => ⟨⟨q, rfl, hq⟩, h⟩
  | _ :: _, _ :: _, i + 1, ⟨a, h⟩ => ⟨a, Prs.setAt hq (i := i) h⟩
theorem neP {K : PySem.W.Frag} {H : Hp} {a b : Addr} {vs ws : List V} {xs ys : List (Int × Int)} {Q : VK} (h1 : SqL K H a vs) (g1 : Prs H vs xs) (h2 : SqL K H b ws) (g2 : Prs H ws ys) (q : Q (.bl (!decide (xs = ys))) H) : rNeD K (.ref a) (.ref b) H Q := by
  refine ⟨dPrs xs, dPrs ys, .lst h1 (dpAll_prs g1), .lst h2 (dpAll_prs g2), sh_prs _, sh_prs _, ?_⟩
  rw [show PyData.eqv (dPrs xs) (dPrs ys) = decide (xs = ys) by unfold dPrs; rw [PyData.eqv]; exact eqvAll_prs xs ys]
  exact q
section
variable {σ : L2.St} {H : Hp} {n bk ct : L2.St → Hp → Prop} {rt : VK}
theorem par3 {i j l : Nat} {tl : TA} (h : tl σ H fun vs H1 => ∃ u v w, vs = [u, v, w] ∧ n (((σ.set i (some u)).set j (some v)).set l (some w)) H1) : tPar3 i j l tl ⟨n, rt, bk, ct⟩ σ H := h
theorem ex3 {u v w : V} {q : V → V → V → Prop} (h : q u v w) : ∃ a b c, [u, v, w] = [a, b, c] ∧ q a b c := ⟨u, v, w, rfl, h⟩
end
end HS
namespace WK18
open PySem PySem.Spec PyProof.Rows L2
local macro_rules | `(tactic| walk_at "ne") => `(tactic| first | assumption | (apply Ne.symm; assumption) | exact ne_of_none (by assumption) (by assumption) | exact (ne_of_none (by assumption) (by assumption)).symm | exact ne_of_none upd_same (by assumption) | exact (ne_of_none upd_same (by assumption)).symm)
local macro_rules | `(tactic| walk_at "hp") => `(tactic| first | assumption | exact upd_same | (rw [upd_ne (by walk_at "ne")]; walk_at "hp"))
local macro_rules | `(tactic| walk_at "side") => `(tactic| first | omega | decide | assumption | exact ⟨by decide, by decide⟩ | exact ⟨by omega, by omega⟩ | exact .inl (by omega) | exact .inr (by omega) | exact .inl (by decide) | exact .inr (by decide) | exact ⟨by decide, by decide, by decide⟩ | exact ⟨by decide, by decide, by omega⟩ | exact .inl ⟨by omega, by omega⟩ | exact .inr ⟨by omega, by omega⟩ | exact .inr ⟨by decide, by decide⟩ | exact .inl ⟨by decide, by decide⟩ | (show _ < _; omega))
local macro_rules | `(tactic| walk_at "len") => `(tactic| ((try simp only [List.length_map, List.length_append, List.length_cons, List.length_nil, List.length_set, List.length_replicate]); omega))
local macro_rules | `(tactic| walk_at "sq") => `(tactic| first | assumption | exact HS.sq (by walk_at "hp"))
local macro_rules | `(tactic| walk_at "st") => `(tactic| first | assumption | exact HS.st (by walk_at "hp"))
local macro_rules | `(tactic| walk_at "h1") => `(tactic| first
  | with_reducible refine HS.seq ?_
  | with_reducible refine HS.asg ?_
  | with_reducible refine HS.nm ?_
  | with_reducible refine HS.var rfl ?_
  | with_reducible refine HS.cst ?_
  | with_reducible refine HS.op ?_
  | with_reducible refine HS.i0 ?_
  | ((with_reducible refine HS.i1 ?_); first | refine ⟨by walk_at "side", ?_⟩ | skip)
  | with_reducible refine HS.u0 ?_
  | with_reducible refine HS.un ?_
  | with_reducible refine HS.eqI ?_
  | with_reducible refine HS.neI ?_
  | with_reducible refine HS.tst ?_
  | with_reducible refine HS.tb1 ?_
  | with_reducible refine HS.bex ?_
  | with_reducible refine HS.ifs ?_
  | with_reducible refine HS.ife ?_
  | with_reducible refine HS.and ?_
  | with_reducible refine HS.or ?_
  | with_reducible refine HS.not ?_
  | with_reducible refine HS.andV ?_
  | with_reducible refine HS.orV ?_
  | with_reducible refine HS.notV ?_
  | with_reducible refine HS.chn ?_
  | with_reducible refine HS.ret ?_
  | with_reducible refine HS.retN ?_
  | with_reducible refine HS.drp ?_
  | with_reducible refine HS.cb ?_
  | with_reducible refine HS.anil ?_
  | with_reducible refine HS.acons ?_
  | with_reducible refine HS.cal ?_
  | with_reducible refine HS.tup ?_
  | with_reducible refine HS.lst ?_
  | with_reducible refine HS.par ?_
  | with_reducible refine HS.ex2 ?_
  | with_reducible refine HS.aug rfl ?_
  | with_reducible refine HS.ipi ?_
  | with_reducible refine HS.addI ?_
  | with_reducible refine HS.nxt ?_
  | with_reducible refine HS.brk ?_
  | with_reducible refine HS.cnt ?_
  | with_reducible refine HS.sub ?_
  | with_reducible refine HS.pnx ?_
  | with_reducible refine HS.prt ?_
  | with_reducible refine HS.pbk ?_
  | with_reducible refine HS.pct ?_
  | with_reducible refine iteF ?_
  | with_reducible refine iteT ?_
  | with_reducible refine HS.ii ?_
  | with_reducible refine HS.bmL ?_
  | with_reducible refine HS.bmL0 ?_
  | ((with_reducible refine' HS.tyL ?e ?_); case e => walk_at "hp")
  | ((with_reducible refine' HS.app ?e ?_); (case e => walk_at "hp"))
  | ((with_reducible refine' HS.setL ?e ?f ?_); (case e => walk_at "hp"); (case f => rfl))
  | ((with_reducible refine' HS.wp ?e ?_); case e => rfl)
  | ((with_reducible refine' HS.szc ?e ?_); case e => walk_at "len")
  | ((with_reducible refine' HS.szd ?e ?_); case e => walk_at "len")
  | with_reducible refine HS.yes ?_
  | with_reducible refine HS.lc ?_
  | with_reducible refine HS.rng1 ?_
  | with_reducible refine HS.rng2 ?_
  | with_reducible refine HS.rng3 ?_
  | with_reducible refine HS.lis ?_
  | with_reducible refine HS.fr ?_
  | with_reducible refine HS.i1e ?_
  | with_reducible refine HS.gthen ?_
  | with_reducible refine HS.g0 ?_
  | with_reducible refine HS.gfr ?_
  | with_reducible refine HS.gpl ?_
  | with_reducible refine HS.gyl ?_
  | with_reducible refine HS.lgn ?_
  | with_reducible refine HS.calg ?_
  | with_reducible refine HS.revL ?_
  | with_reducible refine HS.sl ?_
  | with_reducible refine HS.noP ?_
  | with_reducible refine HS.part ?_
  | with_reducible refine HS.ie ?_
  | ((with_reducible refine' HS.slLs ?e ?_); case e => walk_at "sq")
  | ((with_reducible refine' HS.gtup ?e ?f ?_); (case e => walk_at "st"); (case f => rfl))
  | with_reducible refine HS.gcons ?_
  | with_reducible refine HS.gnil ?_
  | with_reducible refine HS.itup ?_
  | with_reducible refine HS.ienu ?_
  | ((with_reducible refine' HS.cat ?e ?f ?_); (case e => walk_at "hp"); (case f => walk_at "hp"))
  | ((with_reducible refine' HS.ext ?e ?f ?_); (case e => walk_at "hp"); (case f => walk_at "hp"))
  | ((with_reducible refine' HS.sumL ?e ?_); case e => walk_at "sq")
  | ((with_reducible refine' HS.lenL ?e ?_); case e => walk_at "sq")
  | ((with_reducible refine' HS.lenT ?e ?_); case e => walk_at "st")
  | with_reducible refine HS.ra ?_
  | ((with_reducible refine' HS.ixL ?e ?f ?_); (case e => walk_at "sq"); (case f => rfl))
  | ((with_reducible refine' HS.ixT ?e ?f ?_); (case e => walk_at "st"); (case f => rfl)))
local macro_rules | `(tactic| walk_at "hs") => `(tactic| repeat' (walk_at "h1"))
local macro_rules | `(tactic| walk_at "fold") => `(tactic| (walk_at "hs"; assumption))
local macro_rules | `(tactic| walk_at "ns") => `(tactic| first | exact (fun z => z) | assumption | exact HS.nS2 (by walk_at "ne") (by walk_at "ne") | exact HS.nS3 (by walk_at "ne") (by walk_at "ne") (by walk_at "ne"))
local macro_rules | `(tactic| walk_at "kp") => `(tactic| first
  | assumption
  | exact HS.Keep.refl
  | (refine HS.Keep.at ?_ (by first | exact .inl rfl | exact .inr rfl | exact .inr (.inl rfl) | exact .inr (.inr rfl)); walk_at "kp")
  | (refine HS.Keep.put ?_ (by assumption); walk_at "kp")
  | (refine HS.Keep.new' (by assumption) (by first | assumption | exact HS.Keep.refl) (by walk_at "ns") ?_; walk_at "kp"))
local macro_rules | `(tactic| walk_at "h1") => `(tactic| first
  | with_reducible refine HS.caln ?_
  | with_reducible refine HS.ckw ?_
  | with_reducible refine HS.izip ?_
  | with_reducible refine HS.orT ?_
  | with_reducible refine HS.srv ?_
  | with_reducible refine HS.nt ?_
  | with_reducible refine HS.nf ?_
  | ((with_reducible refine' HS.lnn ?e ?f ?_); (case e => rfl); (case f => rfl)))
local macro_rules | `(tactic| walk_at "kp") => `(tactic| (refine HS.Keep.at ?_ rfl; walk_at "kp"))
local macro_rules | `(tactic| walk_at "h1") => `(tactic| first
  | with_reducible refine HS.par3 ?_
  | with_reducible refine HS.ex3 ?_)
def topS (i : Nat) : Stmt := PySem.Challenge.pw_pagecounts_k18_whole_page_counts_add_up.main.body.getD i (.Pass ⟨0, 0, 0, 0⟩)
abbrev s__law_rng : Stmt := topS 17
abbrev N__law_rng : List Str := ["script", "digits", "seed", "cell", "size"]
theorem sc__law_rng : FnScope N__law_rng ["script"] (defScope s__law_rng) := ⟨rfl, rfl, rfl, by decide +kernel, rfl, by decide +kernel, by decide +kernel⟩
abbrev s__law_draw : Stmt := topS 18
abbrev N__law_draw : List Str := ["rng", "limit", "found", "mixed"]
theorem sc__law_draw : FnScope N__law_draw ["rng", "limit"] (defScope s__law_draw) := ⟨rfl, rfl, rfl, by decide +kernel, rfl, by decide +kernel, by decide +kernel⟩
abbrev s_check_not_negative : Stmt := topS 6
abbrev N_check_not_negative : List Str := ["number"]
theorem sc_check_not_negative : FnScope N_check_not_negative ["number"] (defScope s_check_not_negative) := ⟨rfl, rfl, rfl, by decide +kernel, rfl, by decide +kernel, by decide +kernel⟩
abbrev s_check_chain : Stmt := topS 7
abbrev N_check_chain : List Str := ["chain", "before", "index", "size", "_"]
theorem sc_check_chain : FnScope N_check_chain ["chain"] (defScope s_check_chain) := ⟨rfl, rfl, rfl, by decide +kernel, rfl, by decide +kernel, by decide +kernel⟩
abbrev s_check_demands : Stmt := topS 11
abbrev N_check_demands : List Str := ["chapters", "lines", "chain"]
theorem sc_check_demands : FnScope N_check_demands ["chapters", "lines", "chain"] (defScope s_check_demands) := ⟨rfl, rfl, rfl, by decide +kernel, rfl, by decide +kernel, by decide +kernel⟩
abbrev s_has_book : Stmt := topS 12
abbrev N_has_book : List Str := ["chapters", "many"]
theorem sc_has_book : FnScope N_has_book ["chapters", "many"] (defScope s_has_book) := ⟨rfl, rfl, rfl, by decide +kernel, rfl, by decide +kernel, by decide +kernel⟩
abbrev s_list_places : Stmt := topS 13
abbrev N_list_places : List Str := ["chapters", "lines", "chain", "places", "size", "rest", "larger", "many", "limit"]
theorem sc_list_places : FnScope N_list_places ["chapters", "lines", "chain"] (defScope s_list_places) := ⟨rfl, rfl, rfl, by decide +kernel, rfl, by decide +kernel, by decide +kernel⟩
abbrev s_count_lists : Stmt := topS 15
abbrev N_count_lists : List Str := ["terms", "limit", "total", "found", "sign", "chosen"]
theorem sc_count_lists : FnScope N_count_lists ["terms", "limit", "total"] (defScope s_count_lists) := ⟨rfl, rfl, rfl, by decide +kernel, rfl, by decide +kernel, by decide +kernel⟩
abbrev s_multiply_ways : Stmt := topS 14
abbrev N_multiply_ways : List Str := ["chapters", "places", "books", "_", "limit", "total"]
theorem sc_multiply_ways : FnScope N_multiply_ways ["chapters", "places"] (defScope s_multiply_ways) := ⟨rfl, rfl, rfl, by decide +kernel, rfl, by decide +kernel, by decide +kernel⟩
abbrev s_count_fitting : Stmt := topS 9
abbrev N_count_fitting : List Str := ["chapters", "lines", "chain"]
theorem sc_count_fitting : FnScope N_count_fitting ["chapters", "lines", "chain"] (defScope s_count_fitting) := ⟨rfl, rfl, rfl, by decide +kernel, rfl, by decide +kernel, by decide +kernel⟩
abbrev s_contradiction : Stmt := topS 10
abbrev N_contradiction : List Str := ["chapters", "lines", "chain", "places", "index", "_", "many", "limit", "total"]
theorem sc_contradiction : FnScope N_contradiction ["chapters", "lines", "chain"] (defScope s_contradiction) := ⟨rfl, rfl, rfl, by decide +kernel, rfl, by decide +kernel, by decide +kernel⟩
abbrev s__law_binomial : Stmt := topS 19
abbrev N__law_binomial : List Str := ["many", "few", "found", "step"]
theorem sc__law_binomial : FnScope N__law_binomial ["many", "few"] (defScope s__law_binomial) := ⟨rfl, rfl, rfl, by decide +kernel, rfl, by decide +kernel, by decide +kernel⟩
abbrev s__law_added_right : Stmt := topS 20
abbrev N__law_added_right : List Str := ["many", "total", "rows", "wide", "before", "most", "ways", "number", "spots", "more", "spot"]
theorem sc__law_added_right : FnScope N__law_added_right ["many", "total", "rows", "wide", "before"] (defScope s__law_added_right) := ⟨rfl, rfl, rfl, by decide +kernel, rfl, by decide +kernel, by decide +kernel⟩
abbrev s_law : Stmt := topS 21
abbrev N_law : List Str := ["script", "rng", "lap", "many", "total", "rows", "wide", "before", "turn", "factor"]
theorem sc_law : FnScope N_law ["script"] (defScope s_law) := ⟨rfl, rfl, rfl, by decide +kernel, rfl, by decide +kernel, by decide +kernel⟩
structure Ad where
  a__law_rng : Addr
  d__law_rng : FuncData
  a__law_draw : Addr
  d__law_draw : FuncData
  a_check_not_negative : Addr
  d_check_not_negative : FuncData
  a_check_chain : Addr
  d_check_chain : FuncData
  a_check_demands : Addr
  d_check_demands : FuncData
  a_has_book : Addr
  d_has_book : FuncData
  a_list_places : Addr
  d_list_places : FuncData
  a_count_lists : Addr
  d_count_lists : FuncData
  a_multiply_ways : Addr
  d_multiply_ways : FuncData
  a_count_fitting : Addr
  d_count_fitting : FuncData
  a_contradiction : Addr
  d_contradiction : FuncData
  a__law_binomial : Addr
  d__law_binomial : FuncData
  a__law_added_right : Addr
  d__law_added_right : FuncData
  a_law : Addr
  d_law : FuncData
structure Txt (K : PySem.W.Frag) (mg : Str → Option Value) (A : Ad) : Prop where
  F__law_rng : Fun K "_law_rng" "_law_rng" s__law_rng A.a__law_rng A.d__law_rng
  g__law_rng : mg "_law_rng" = some (.ref A.a__law_rng)
  b__law_rng : Binds K A.d__law_rng ["script"] []
  F__law_draw : Fun K "_law_draw" "_law_draw" s__law_draw A.a__law_draw A.d__law_draw
  g__law_draw : mg "_law_draw" = some (.ref A.a__law_draw)
  b__law_draw : Binds K A.d__law_draw ["rng", "limit"] []
  F_check_not_negative : Fun K "check_not_negative" "check_not_negative" s_check_not_negative A.a_check_not_negative A.d_check_not_negative
  g_check_not_negative : mg "check_not_negative" = some (.ref A.a_check_not_negative)
  b_check_not_negative : Binds K A.d_check_not_negative ["number"] []
  F_check_chain : Fun K "check_chain" "check_chain" s_check_chain A.a_check_chain A.d_check_chain
  g_check_chain : mg "check_chain" = some (.ref A.a_check_chain)
  b_check_chain : Binds K A.d_check_chain ["chain"] []
  F_check_demands : Fun K "check_demands" "check_demands" s_check_demands A.a_check_demands A.d_check_demands
  g_check_demands : mg "check_demands" = some (.ref A.a_check_demands)
  b_check_demands : Binds K A.d_check_demands ["chapters", "lines", "chain"] []
  F_has_book : Fun K "has_book" "has_book" s_has_book A.a_has_book A.d_has_book
  g_has_book : mg "has_book" = some (.ref A.a_has_book)
  b_has_book : Binds K A.d_has_book ["chapters", "many"] []
  F_list_places : Fun K "list_places" "list_places" s_list_places A.a_list_places A.d_list_places
  g_list_places : mg "list_places" = some (.ref A.a_list_places)
  b_list_places : Binds K A.d_list_places ["chapters", "lines", "chain"] []
  F_count_lists : Fun K "count_lists" "count_lists" s_count_lists A.a_count_lists A.d_count_lists
  g_count_lists : mg "count_lists" = some (.ref A.a_count_lists)
  b_count_lists : Binds K A.d_count_lists ["terms", "limit", "total"] []
  F_multiply_ways : Fun K "multiply_ways" "multiply_ways" s_multiply_ways A.a_multiply_ways A.d_multiply_ways
  g_multiply_ways : mg "multiply_ways" = some (.ref A.a_multiply_ways)
  b_multiply_ways : Binds K A.d_multiply_ways ["chapters", "places"] []
  F_count_fitting : Fun K "count_fitting" "count_fitting" s_count_fitting A.a_count_fitting A.d_count_fitting
  g_count_fitting : mg "count_fitting" = some (.ref A.a_count_fitting)
  b_count_fitting : Binds K A.d_count_fitting ["chapters", "lines", "chain"] []
  F_contradiction : Fun K "contradiction" "contradiction" s_contradiction A.a_contradiction A.d_contradiction
  g_contradiction : mg "contradiction" = some (.ref A.a_contradiction)
  b_contradiction : Binds K A.d_contradiction ["chapters", "lines", "chain"] []
  F__law_binomial : Fun K "_law_binomial" "_law_binomial" s__law_binomial A.a__law_binomial A.d__law_binomial
  g__law_binomial : mg "_law_binomial" = some (.ref A.a__law_binomial)
  b__law_binomial : Binds K A.d__law_binomial ["many", "few"] []
  F__law_added_right : Fun K "_law_added_right" "_law_added_right" s__law_added_right A.a__law_added_right A.d__law_added_right
  g__law_added_right : mg "_law_added_right" = some (.ref A.a__law_added_right)
  b__law_added_right : Binds K A.d__law_added_right ["many", "total", "rows", "wide", "before"] []
  F_law : Fun K "law" "law" s_law A.a_law A.d_law
  g_law : mg "law" = some (.ref A.a_law)
  b_law : Binds K A.d_law ["script"] []
  z_abs : mg "abs" = none
  z_enumerate : mg "enumerate" = none
  z_int : mg "int" = none
  z_len : mg "len" = none
  z_max : mg "max" = none
  z_min : mg "min" = none
  z_range : mg "range" = none
  z_sum : mg "sum" = none
  y_comb : mg "comb" = some (.builtin "math.comb")
/-- the source of draws at s, its digits at d; n: at most so many mixed draws so far -/
def Src (H : Hp) (s d : Addr) (n : Nat) : Prop := s ≠ d ∧ ∃ (gs : List Int) (l m c : Int), H s = some (.lst [.ref d, .int l, .int m, .int c]) ∧ H d = some (.lst (gs.map V.int)) ∧ (∀ x ∈ gs, 0 ≤ x) ∧ gs.length ≤ 63 ∧ 0 ≤ l ∧ 0 ≤ m ∧ m < 2 ^ 61 ∧ 0 ≤ c ∧ c ≤ n
/-- lengths of chapters -/
def Book (ls : List Int) : Prop := ∀ x ∈ ls, 1 ≤ x ∧ x < 10 ^ 30
theorem Src.keep {H H' : Hp} {s d : Addr} {n : Nat} (h : Src H s d n) (e1 : H' s = H s) (e2 : H' d = H d) : Src H' s d n := by
  obtain ⟨hsd, gs, l, m, c, h1, h2, h3⟩ := h
  exact ⟨hsd, gs, l, m, c, by rw [e1]; exact h1, by rw [e2]; exact h2, h3⟩
theorem Src.new {H : Hp} {s d p : Addr} {n : Nat} {o : HO} (h : Src H s d n) (hp : H p = none) : Src (upd H p o) s d n := by
  obtain ⟨hsd, gs, l, m, c, h1, h2, h3⟩ := h
  exact ⟨hsd, gs, l, m, c, by rw [upd_ne (ne_of_none h1 hp)]; exact h1, by rw [upd_ne (ne_of_none h2 hp)]; exact h2, h3⟩
theorem Src.put {H : Hp} {s d p : Addr} {n : Nat} {o : HO} (h : Src H s d n) (e1 : p ≠ s) (e2 : p ≠ d) : Src (upd H p o) s d n := by
  obtain ⟨hsd, gs, l, m, c, h1, h2, h3⟩ := h
  exact ⟨hsd, gs, l, m, c, by rw [upd_ne e1.symm]; exact h1, by rw [upd_ne e2.symm]; exact h2, h3⟩
theorem Src.ne1 {H : Hp} {s d p : Addr} {n : Nat} (h : Src H s d n) (hp : H p = none) : p ≠ s := by
  obtain ⟨hsd, gs, l, m, c, h1, h2, h3⟩ := h
  exact (ne_of_none h1 hp).symm
theorem Src.ne2 {H : Hp} {s d p : Addr} {n : Nat} (h : Src H s d n) (hp : H p = none) : p ≠ d := by
  obtain ⟨hsd, gs, l, m, c, h1, h2, h3⟩ := h
  exact (ne_of_none h2 hp).symm
theorem Src.up {H : Hp} {s d : Addr} {n m : Nat} (h : Src H s d n) (e : n ≤ m) : Src H s d m := by
  obtain ⟨hsd, gs, l, m', c, h1, h2, h3, h4, h5, h6, h7, h8, h9⟩ := h
  exact ⟨hsd, gs, l, m', c, h1, h2, h3, h4, h5, h6, h7, h8, by omega⟩
/-- the page count of an edition -/
def pcount (ls : List Int) (j : Int) : Int := (ls.map fun x => (x + j - 1) / j).sum
theorem pcount_nil (j : Int) : pcount [] j = 0 := rfl
theorem pcount_cons (x : Int) (ls : List Int) (j : Int) : pcount (x :: ls) j = (x + j - 1) / j + pcount ls j := by unfold pcount; rw [List.map_cons, List.sum_cons]
theorem pcount_append (xs ys : List Int) (j : Int) : pcount (xs ++ ys) j = pcount xs j + pcount ys j := by unfold pcount; rw [List.map_append, List.sum_append]
/-- a page for each chapter, and one more for each full page of its other lines -/
theorem pcount_less1 {j : Int} (hj : 1 ≤ j) : ∀ ls : List Int, (ls.length : Int) + (ls.map fun x => (x - 1) / j).sum = pcount ls j
  | [] => rfl
  | x :: r => by
    have e : (x + j - 1) / j = (x - 1) / j + 1 := by rw [show x + j - 1 = (x - 1) + j * 1 by omega, Int.add_mul_ediv_left _ _ (by omega)]
    rw [pcount_cons, ← pcount_less1 hj r, e, List.length_cons, List.map_cons, List.sum_cons]
    push_cast
    omega
theorem pcount_take {ls : List Int} {i : Nat} {x : Int} (j : Int) (h : ls[i]? = some x) : pcount (ls.take (i + 1)) j = pcount (ls.take i) j + (x + j - 1) / j := by
  obtain ⟨h1, h2⟩ := List.getElem?_eq_some_iff.mp h
  rw [List.take_add_one, h, pcount_append]
  show _ + pcount [x] j = _
  rw [pcount_cons, pcount_nil]; omega
theorem ceil_pos {x j : Int} (hx : 1 ≤ x) (hj : 1 ≤ j) : 1 ≤ (x + j - 1) / j := by
  rw [Int.le_ediv_iff_mul_le (by omega)]; omega
theorem pcount_len {ls : List Int} {j : Int} (hp : ∀ x ∈ ls, 1 ≤ x) (hj : 1 ≤ j) : (ls.length : Int) ≤ pcount ls j := by
  induction ls with
  | nil => exact Int.le_refl 0
  | cons x r ih =>
    rw [pcount_cons, List.length_cons]
    have := ceil_pos (hp x List.mem_cons_self) hj
    have := ih fun y hy => hp y (List.mem_cons_of_mem _ hy)
    omega
theorem pcount_pos {ls : List Int} {j : Int} (hp : ∀ x ∈ ls, 1 ≤ x) (hj : 1 ≤ j) : 0 ≤ pcount ls j := by
  have := pcount_len hp hj; omega
theorem take_all {ls : List Int} {P : Int → Prop} (h : ∀ x ∈ ls, P x) (n : Nat) : ∀ x ∈ ls.take n, P x := fun x hx => h x (List.mem_of_mem_take hx)
theorem Src.same {H H' : Hp} {s d : Addr} {n : Nat} (h : Src H s d n) (k : HS.Keep (fun _ => False) H H') : Src H' s d n := by
  obtain ⟨hsd, gs, l, m, c, h1, h2, h3⟩ := h
  exact ⟨hsd, gs, l, m, c, k _ _ h1 id, k _ _ h2 id, h3⟩
theorem sum_book {ls : List Int} (h : Book ls) : (ls.length : Int) ≤ ls.sum ∧ ls.sum ≤ ls.length * (10 ^ 30) := by
  induction ls with
  | nil => exact ⟨Int.le_refl _, Int.le_refl _⟩
  | cons x r ih =>
    have := ih fun y hy => h y (List.mem_cons_of_mem _ hy)
    have := h x List.mem_cons_self
    rw [List.sum_cons, List.length_cons]
    push_cast
    omega
/-! Sums of ceilings. -/
theorem ceil_le {x j q : Int} (hj : 1 ≤ j) : (x + j - 1) / j ≤ q ↔ x ≤ q * j := by
  rw [← Int.lt_add_one_iff, Int.ediv_lt_iff_lt_mul (by omega), Int.add_mul]
  omega
theorem ceil_up {x j : Int} (hj : 1 ≤ j) : x ≤ (x + j - 1) / j * j := (ceil_le hj).mp (Int.le_refl _)
theorem ceil_dn {x j : Int} (hj : 1 ≤ j) : (x + j - 1) / j * j ≤ x + j - 1 := Int.ediv_mul_le _ (by omega)
theorem ceil_nonneg {x j : Int} (hx : 0 ≤ x) (hj : 1 ≤ j) : 0 ≤ (x + j - 1) / j := Int.ediv_nonneg (by omega) (by omega)
theorem pcount_up (ls : List Int) {j : Int} (hj : 1 ≤ j) : ls.sum ≤ pcount ls j * j := by
  induction ls with
  | nil => rw [pcount_nil]; simp
  | cons x r ih =>
    rw [pcount_cons, List.sum_cons, Int.add_mul]
    have := ceil_up (x := x) hj
    omega
theorem pcount_ceil (ls : List Int) {j : Int} (hj : 1 ≤ j) : (ls.sum + j - 1) / j ≤ pcount ls j := (ceil_le hj).mpr (pcount_up ls hj)
theorem pcount_dn (ls : List Int) {j : Int} (hj : 1 ≤ j) : (pcount ls j - ls.length) * j ≤ ls.sum - ls.length := by
  induction ls with
  | nil => rw [pcount_nil]; simp
  | cons x r ih =>
    rw [pcount_cons, List.sum_cons, List.length_cons]
    have := ceil_dn (x := x) hj
    have e : ((x + j - 1) / j + pcount r j - ((r.length + 1 : Nat) : Int)) * j = (x + j - 1) / j * j - j + (pcount r j - r.length) * j := by
      rw [show ((x + j - 1) / j + pcount r j - ((r.length + 1 : Nat) : Int)) = ((x + j - 1) / j - 1) + (pcount r j - r.length) by push_cast; omega, Int.add_mul, Int.sub_mul, Int.one_mul]
    rw [e]
    push_cast
    omega
theorem pcount_most (ls : List Int) {j : Int} (hj : 1 ≤ j) : pcount ls j ≤ ls.length + (ls.sum - ls.length) / j := by
  have := (Int.le_ediv_iff_mul_le (by omega : 0 < j)).mpr (pcount_dn ls hj)
  omega
theorem pcount_anti {ls : List Int} {j k : Int} (hp : ∀ x ∈ ls, 1 ≤ x) (hj : 1 ≤ j) (hk : j ≤ k) : pcount ls k ≤ pcount ls j := by
  induction ls with
  | nil => exact Int.le_refl _
  | cons x r ih =>
    rw [pcount_cons, pcount_cons]
    have h1 := ih fun y hy => hp y (List.mem_cons_of_mem _ hy)
    have hx := hp x List.mem_cons_self
    have h2 : (x + k - 1) / k ≤ (x + j - 1) / j := (ceil_le (by omega)).mpr (Int.le_trans (ceil_up hj) (Int.mul_le_mul_of_nonneg_left hk (ceil_nonneg (by omega) hj)))
    omega
theorem pcount_mult {ls : List Int} {j m : Int} (hj : 1 ≤ j) (hm : 1 ≤ m) : pcount ls j ≤ m * pcount ls (j * m) := by
  have hjm : 1 ≤ j * m := by have := Int.mul_le_mul hj hm (by omega) (by omega); omega
  induction ls with
  | nil => rw [pcount_nil, pcount_nil, Int.mul_zero]; exact Int.le_refl _
  | cons x r ih =>
    rw [pcount_cons, pcount_cons, Int.mul_add]
    have h2 : (x + j - 1) / j ≤ m * ((x + j * m - 1) / (j * m)) := (ceil_le hj).mpr (by
      have := ceil_up (x := x) hjm
      rw [show m * ((x + j * m - 1) / (j * m)) * j = (x + j * m - 1) / (j * m) * (j * m) by rw [Int.mul_comm m, Int.mul_assoc, Int.mul_comm m j]]
      exact this)
    omega
theorem pcount_reverse (ls : List Int) (j : Int) : pcount ls.reverse j = pcount ls j := by
  induction ls with
  | nil => rfl
  | cons x r ih => rw [List.reverse_cons, pcount_append, ih, pcount_cons, pcount_cons, pcount_nil]; omega
theorem pcount_cut (ls : List Int) (n : Nat) (j : Int) : pcount (ls.take n) j + pcount (ls.drop n) j = pcount ls j := by
  rw [← pcount_append, List.take_append_drop]
theorem ceil_join {x y j : Int} (hj : 1 ≤ j) : (x + y + j - 1) / j ≤ (x + j - 1) / j + (y + j - 1) / j ∧ (x + j - 1) / j + (y + j - 1) / j ≤ (x + y + j - 1) / j + 1 := by
  have a1 := ceil_up (x := x) hj
  have a2 := ceil_dn (x := x) hj
  have b1 := ceil_up (x := y) hj
  have b2 := ceil_dn (x := y) hj
  have c1 := ceil_up (x := x + y) hj
  refine ⟨(ceil_le hj).mpr (by rw [Int.add_mul]; omega), ?_⟩
  generalize (x + j - 1) / j = p at *
  generalize (y + j - 1) / j = q at *
  generalize (x + y + j - 1) / j = r at *
  apply Int.le_of_lt_add_one
  apply Int.lt_of_not_ge
  intro h
  have h1 : (r + 2) * j ≤ (p + q) * j := Int.mul_le_mul_of_nonneg_right (by omega) (by omega)
  rw [Int.add_mul, Int.add_mul] at h1
  omega
theorem pcount_sum {ls : List Int} {j : Int} (hp : ∀ x ∈ ls, 1 ≤ x) (hl : (ls.length : Int) ≤ ls.sum) (hj : 1 ≤ j) : pcount ls j ≤ ls.sum := by
  have := pcount_most ls hj
  have := Int.ediv_le_self j (show 0 ≤ ls.sum - ls.length by omega)
  omega
/-- the law's draws: three numbers in a list at s; n: at most so many mixed draws so far -/
def Rng (H : Hp) (s : Addr) (n : Nat) : Prop := ∃ l m c : Int, H s = some (.lst [.int l, .int m, .int c]) ∧ 0 ≤ l ∧ 0 ≤ m ∧ m < 2 ^ 61 ∧ 0 ≤ c ∧ c ≤ n
section
variable {H H' : Hp} {s p : Addr} {n m : Nat} {o : HO}
theorem Rng.keep (h : Rng H s n) (e : H' s = H s) : Rng H' s n := by
  obtain ⟨l, m, c, h1, h2⟩ := h
  exact ⟨l, m, c, by rw [e]; exact h1, h2⟩
theorem Rng.new (h : Rng H s n) (hp : H p = none) : Rng (upd H p o) s n := by
  obtain ⟨l, m, c, h1, h2⟩ := h
  exact ⟨l, m, c, by rw [upd_ne (ne_of_none h1 hp)]; exact h1, h2⟩
theorem Rng.put (h : Rng H s n) (e : p ≠ s) : Rng (upd H p o) s n := by
  obtain ⟨l, m, c, h1, h2⟩ := h
  exact ⟨l, m, c, by rw [upd_ne e.symm]; exact h1, h2⟩
theorem Rng.ne (h : Rng H s n) (hp : H p = none) : p ≠ s := by
  obtain ⟨l, m, c, h1, h2⟩ := h
  exact (ne_of_none h1 hp).symm
theorem Rng.up (h : Rng H s n) (e : n ≤ m) : Rng H s m := by
  obtain ⟨l, m', c, h1, h2, h3, h4, h5, h6⟩ := h
  exact ⟨l, m', c, h1, h2, h3, h4, h5, by omega⟩
theorem Rng.same (h : Rng H s n) (k : HS.Keep (fun _ => False) H H') : Rng H' s n := by
  obtain ⟨l, m', c, h1, h2⟩ := h
  exact ⟨l, m', c, k _ _ h1 id, h2⟩
end
/-- lengths of chapters, up to T -/
def Lens (ls : List Int) (T : Int) : Prop := ∀ x ∈ ls, 1 ≤ x ∧ x ≤ T
theorem Lens.one {ls : List Int} {T : Int} (h : Lens ls T) : ∀ x ∈ ls, 1 ≤ x := fun x hx => (h x hx).1
theorem pow_up (i : Nat) : (2 : Int) ^ (200 * (i + 1)) < 2 ^ (200 * (i + 1 + 1)) := by
  have e : (2 : Int) ^ (200 * (i + 1 + 1)) = 2 ^ (200 * (i + 1)) * 2 ^ 200 := by rw [← Int.pow_add, show 200 * (i + 1) + 200 = 200 * (i + 1 + 1) by omega]
  have z : (0 : Int) < 2 ^ (200 * (i + 1)) := Int.pow_pos (by decide)
  rw [e]
  generalize (2 : Int) ^ (200 * (i + 1)) = P at z ⊢
  omega
theorem rng_step {d s : Int} {i : Nat} (h0 : 0 ≤ d) (h : d < 2 ^ (200 * (i + 1))) (s0 : 0 ≤ s) (s1 : s < 10 ^ 60) : 0 ≤ d * 10 ^ 60 + s ∧ d * 10 ^ 60 + s < 2 ^ (200 * (i + 1 + 1)) := by
  have e : (2 : Int) ^ (200 * (i + 1 + 1)) = 2 ^ (200 * (i + 1)) * 2 ^ 200 := by rw [← Int.pow_add, show 200 * (i + 1) + 200 = 200 * (i + 1 + 1) by omega]
  rw [e]
  generalize (2 : Int) ^ (200 * (i + 1)) = P at h ⊢
  omega
/-- some chapters -/
def Ls (H : Hp) (p : Addr) (ls : List Int) : Prop := H p = some (.lst (ls.map V.int))
theorem Rng.prs {H H' : Hp} {s : Addr} {n : Nat} {us : List V} {qs : List (Int × Int)} (S : Rng H s n) (k : HS.Keep (fun a => a = s) H H') (h : HS.Prs H us qs) : HS.Prs H' us qs := by
  obtain ⟨l0, m0, c0, hs0, _⟩ := S
  refine h.keep k fun v hv t' e' z' => ?_
  obtain ⟨i0, hi0⟩ := List.getElem?_of_mem hv
  obtain ⟨q, p, eq, _, hq⟩ := HS.Prs.at h hi0
  rw [eq] at e'
  cases e'
  rw [z', hs0] at hq
  cases hq
abbrev bin (n k : Nat) : Nat := HS.binC n k
theorem bin_0 (n : Nat) : bin n 0 = 1 := HS.binC_0 n
theorem bin_above (n k : Nat) (h : n < k) : bin n k = 0 := HS.binC_above n k h
/-! Lists of n numbers from 1 to m with a sum: counted one by one, and by taking away and giving back. -/
/-- how many lists of n numbers from 1 to m have the sum t -/
def bnd (m : Nat) : Nat → Int → Int
  | 0, t => if t = 0 then 1 else 0
  | n + 1, t => ((List.range m).map fun (x : Nat) => bnd m n (t - ((x : Int) + 1))).sum
/-- how many lists of n numbers from 1 on have the sum t -/
def cpN : Nat → Nat → Int
  | 0, 0 => 1
  | 0, _ + 1 => 0
  | _ + 1, 0 => 0
  | n + 1, t + 1 => cpN (n + 1) t + cpN n t
theorem cpN_0 (t : Nat) : cpN 0 t = if t = 0 then 1 else 0 := by cases t <;> rfl
def cps (n : Nat) (t : Int) : Int := if t < 0 then 0 else cpN n t.toNat
theorem cps_0 (t : Int) : cps 0 t = if t = 0 then 1 else 0 := by
  unfold cps
  by_cases c : t < 0
  · rw [if_pos c, if_neg (by omega)]
  · rw [if_neg c, cpN_0]
    by_cases z : t = 0
    · rw [if_pos (by omega), if_pos z]
    · rw [if_neg (by omega), if_neg z]
theorem cps_succ (n : Nat) (t : Int) : cps (n + 1) t = cps (n + 1) (t - 1) + cps n (t - 1) := by
  unfold cps
  by_cases c : t - 1 < 0
  · rw [if_pos c, if_pos c]
    by_cases d : t < 0
    · rw [if_pos d]; rfl
    · rw [if_neg d, show t.toNat = 0 by omega]; rfl
  · rw [if_neg c, if_neg c, if_neg (by omega), show t.toNat = (t - 1).toNat + 1 by omega]
    rfl
theorem cpN_low : ∀ (n t : Nat), t < n → cpN n t = 0
  | 0, _, h => absurd h (Nat.not_lt_zero _)
  | _ + 1, 0, _ => rfl
  | n + 1, t + 1, h => by
    show cpN (n + 1) t + cpN n t = 0
    rw [cpN_low (n + 1) t (by omega), cpN_low n t (by omega)]; rfl
theorem cps_low {n : Nat} {t : Int} (h : t < n) : cps n t = 0 := by
  unfold cps
  by_cases c : t < 0
  · rw [if_pos c]
  · rw [if_neg c]; exact cpN_low _ _ (by omega)
theorem cpN_bin : ∀ (n t : Nat), cpN (n + 1) (t + 1) = (bin t n : Nat)
  | n, 0 => by
    show cpN (n + 1) 0 + cpN n 0 = _
    cases n with
    | zero => rfl
    | succ n => rfl
  | n, t + 1 => by
    show cpN (n + 1) (t + 1) + cpN n (t + 1) = _
    rw [cpN_bin n t]
    cases n with
    | zero => show ((bin t 0 : Nat) : Int) + 0 = _; rw [bin_0, bin_0]; rfl
    | succ n =>
      rw [cpN_bin n t]
      show _ = ((bin t n + bin t (n + 1) : Nat) : Int)
      rw [Int.natCast_add, Int.add_comm]
/-- the program's number: terms from 1 on -/
theorem cps_bin {n : Nat} {t : Int} (h : 1 ≤ t) : cps (n + 1) t = (bin (t - 1).toNat n : Nat) := by
  unfold cps
  rw [if_neg (by omega), show t.toNat = (t - 1).toNat + 1 by omega, cpN_bin]
theorem cpN_nonneg : ∀ (n t : Nat), 0 ≤ cpN n t
  | 0, t => by rw [cpN_0]; split <;> decide
  | _ + 1, 0 => Int.le_refl _
  | n + 1, t + 1 => Int.add_nonneg (cpN_nonneg (n + 1) t) (cpN_nonneg n t)
theorem cps_nonneg (n : Nat) (t : Int) : 0 ≤ cps n t := by
  unfold cps; split
  · exact Int.le_refl _
  · exact cpN_nonneg _ _
theorem sum_int_append (xs ys : List Int) : (xs ++ ys).sum = xs.sum + ys.sum := List.sum_append
/-- sums over windows -/
theorem window (f : Int → Int) : ∀ (m : Nat) (t : Int), ((List.range m).map fun (x : Nat) => f (t - ((x : Int) + 1))).sum - ((List.range m).map fun (x : Nat) => f (t - 1 - ((x : Int) + 1))).sum = f (t - 1) - f (t - 1 - m)
  | 0, t => by simp
  | m + 1, t => by
    have ih := window f m t
    rw [List.range_succ, List.map_append, List.map_append, sum_int_append, sum_int_append]
    simp only [List.map_cons, List.map_nil, List.sum_cons, List.sum_nil]
    rw [show t - ((m : Int) + 1) = t - 1 - m by omega, show t - 1 - ((m + 1 : Nat) : Int) = t - 1 - ((m : Int) + 1) by push_cast; omega]
    omega
theorem bnd_step (m n : Nat) (t : Int) : bnd m (n + 1) t = bnd m (n + 1) (t - 1) + (bnd m n (t - 1) - bnd m n (t - 1 - m)) := by
  have := window (bnd m n) m t
  show ((List.range m).map fun (x : Nat) => bnd m n (t - ((x : Int) + 1))).sum = ((List.range m).map fun (x : Nat) => bnd m n (t - 1 - ((x : Int) + 1))).sum + _
  omega
theorem sum_zero {α : Type} (f : α → Int) : ∀ xs : List α, (∀ x ∈ xs, f x = 0) → (xs.map f).sum = 0
  | [], _ => rfl
  | x :: r, h => by
    rw [List.map_cons, List.sum_cons, h x List.mem_cons_self, sum_zero f r fun y hy => h y (List.mem_cons_of_mem _ hy)]; rfl
theorem bnd_low (m : Nat) : ∀ {n : Nat} {t : Int}, t < n → bnd m n t = 0
  | 0, t, h => if_neg (by omega)
  | n + 1, t, h => sum_zero _ _ fun x _ => bnd_low m (n := n) (by omega)
def sgn (j : Nat) : Int := if j % 2 = 0 then 1 else -1
theorem sgn_succ (j : Nat) : sgn (j + 1) = - sgn j := by
  unfold sgn
  by_cases c : j % 2 = 0
  · rw [if_pos c, if_neg (by omega)]
  · rw [if_neg c, if_pos (by omega)]; rfl
/-- what is taken away and given back, up to N times -/
def alt (m N n : Nat) (t : Int) : Int := ((List.range N).map fun (j : Nat) => sgn j * (bin n j : Nat) * cps n (t - (j : Int) * m)).sum
theorem alt_succ (m N n : Nat) (t : Int) : alt m (N + 1) n t = alt m N n t + sgn N * (bin n N : Nat) * cps n (t - (N : Int) * m) := by
  unfold alt
  rw [List.range_succ, List.map_append, sum_int_append]
  simp
theorem alt_more (m n : Nat) (t : Int) (N : Nat) : ∀ k, (∀ j, N ≤ j → bin n j = 0 ∨ cps n (t - (j : Int) * m) = 0) → alt m (N + k) n t = alt m N n t
  | 0, _ => rfl
  | k + 1, h => by
    rw [← Nat.add_assoc, alt_succ, alt_more m n t N k h]
    rcases h (N + k) (by omega) with z | z
    · rw [z]; simp
    · rw [z, Int.mul_zero, Int.add_zero]
theorem alt_full (m n : Nat) (t : Int) {N : Nat} (h : n + 1 ≤ N) : alt m N n t = alt m (n + 1) n t := by
  obtain ⟨k, rfl⟩ : ∃ k, N = n + 1 + k := ⟨N - (n + 1), by omega⟩
  exact alt_more m n t (n + 1) k fun j hj => .inl (bin_above n j (by omega))
/-- the step of the alternating sums -/
theorem alt_diff (m n : Nat) (t : Int) : ∀ N, alt m (N + 1) (n + 1) t = alt m (N + 1) (n + 1) (t - 1) + (alt m (N + 1) n (t - 1) - alt m N n (t - 1 - m))
  | 0 => by
    have e0 : ∀ (n : Nat) (t : Int), alt m (0 + 1) n t = cps n t := fun n t => by
      rw [alt_succ]
      unfold alt
      rw [bin_0]
      simp [sgn]
    have e1 : alt m 0 n (t - 1 - m) = 0 := rfl
    rw [e0, e0, e0, e1, cps_succ n t, Int.sub_zero]
  | N + 1 => by
    have ih := alt_diff m n t N
    rw [alt_succ m (N + 1) (n + 1) t, alt_succ m (N + 1) (n + 1) (t - 1), alt_succ m (N + 1) n (t - 1), alt_succ m N n (t - 1 - m), ih]
    have e1 : t - 1 - (m : Int) - (N : Int) * m = t - 1 - ((N + 1 : Nat) : Int) * m := by push_cast; rw [Int.add_mul]; omega
    have e2 : t - ((N + 1 : Nat) : Int) * m - 1 = t - 1 - ((N + 1 : Nat) : Int) * m := by omega
    rw [e1, cps_succ n (t - ((N + 1 : Nat) : Int) * m), e2, sgn_succ]
    have b : bin (n + 1) (N + 1) = bin n N + bin n (N + 1) := rfl
    rw [b, Int.natCast_add]
    generalize cps (n + 1) (t - 1 - ((N + 1 : Nat) : Int) * m) = u
    generalize cps n (t - 1 - ((N + 1 : Nat) : Int) * m) = v
    generalize ((bin n N : Nat) : Int) = p
    generalize ((bin n (N + 1) : Nat) : Int) = q
    generalize sgn N = s
    have : -s * (p + q) * (u + v) = -s * (p + q) * u + -s * q * v - s * p * v := by
      rw [Int.mul_add, Int.mul_add (-s) p q, Int.add_mul, Int.add_mul, Int.neg_mul s p, Int.neg_mul (s * p) v]; omega
    omega
theorem alt_low (m N n : Nat) {t : Int} (h : t < n) : alt m N n t = 0 := by
  refine sum_zero _ _ fun j _ => ?_
  have : (0 : Int) ≤ (j : Int) * m := Int.mul_nonneg (by omega) (by omega)
  rw [cps_low (by omega), Int.mul_zero]
theorem bnd_alt (m : Nat) : ∀ (n : Nat) (t : Int), bnd m n t = alt m (n + 1) n t
  | 0, t => by
    unfold alt
    show (if t = 0 then (1 : Int) else 0) = ((List.range 1).map _).sum
    rw [List.range_one]
    simp only [List.map_cons, List.map_nil, List.sum_cons, List.sum_nil]
    rw [cps_0, bin_0]
    simp [sgn]
  | n + 1, t => by
    have key : ∀ (k : Nat) (t : Int), t < k → bnd m (n + 1) t = alt m (n + 2) (n + 1) t := by
      intro k
      induction k with
      | zero => intro t h; rw [bnd_low m (by omega), alt_low m _ _ (by omega)]
      | succ k ih =>
        intro t h
        rw [bnd_step, alt_diff m n t (n + 1), ih (t - 1) (by omega), bnd_alt m n (t - 1), bnd_alt m n (t - 1 - m), alt_full m n (t - 1) (N := n + 1 + 1) (by omega)]
    exact key (t.toNat + 1) t (by omega)
/-- the program's sum -/
theorem bnd_sum (m n : Nat) (t : Int) (N : Nat) (h : ∀ j : Nat, N ≤ j → t - (j : Int) * m < n) : alt m N n t = bnd m n t := by
  rw [bnd_alt]
  have h1 := alt_more m n t N (n + 1) fun j hj => .inr (cps_low (h j hj))
  rw [← h1]
  exact alt_full m n t (by omega)
theorem sum_flip (f : Nat → Int) : ∀ m : Nat, ((List.range m).map f).sum = ((List.range m).map fun x => f (m - 1 - x)).sum := by
  intro m
  induction m generalizing f with
  | zero => rfl
  | succ m ih =>
    rw [List.range_succ_eq_map, List.map_cons, List.sum_cons, List.map_map, ← List.range_succ_eq_map, List.range_succ, List.map_append, sum_int_append]
    have := ih (fun x => f (x + 1))
    have e : ((List.range m).map fun x => f (m + 1 - 1 - x)) = ((List.range m).map fun x => f (m - 1 - x + 1)) := List.map_congr_left fun x hx => by
      have := List.mem_range.mp hx
      rw [show m + 1 - 1 - x = m - 1 - x + 1 by omega]
    rw [e, ← this]
    simp only [List.map_cons, List.map_nil, List.sum_cons, List.sum_nil]
    rw [show m + 1 - 1 - m = 0 by omega]
    show f 0 + ((List.range m).map (f ∘ Nat.succ)).sum = ((List.range m).map fun x => f (x + 1)).sum + (f 0 + 0)
    have e2 : (List.range m).map (f ∘ Nat.succ) = (List.range m).map fun x => f (x + 1) := rfl
    rw [e2]; omega
theorem bnd_flip (m : Nat) : ∀ (n : Nat) (t : Int), bnd m n t = bnd m n ((n : Int) * (m + 1) - t)
  | 0, t => by
    show (if t = 0 then (1 : Int) else 0) = if ((0 : Nat) : Int) * (m + 1) - t = 0 then 1 else 0
    by_cases c : t = 0
    · rw [if_pos c, if_pos (by omega)]
    · rw [if_neg c, if_neg (by omega)]
  | n + 1, t => by
    show ((List.range m).map fun (x : Nat) => bnd m n (t - ((x : Int) + 1))).sum = ((List.range m).map fun (x : Nat) => bnd m n (((n + 1 : Nat) : Int) * (m + 1) - t - ((x : Int) + 1))).sum
    rw [sum_flip]
    congr 1
    refine List.map_congr_left fun x hx => ?_
    have := List.mem_range.mp hx
    rw [bnd_flip m n (t - (((m - 1 - x : Nat) : Int) + 1))]
    congr 1
    push_cast
    rw [Int.add_mul, Int.one_mul]
    omega
theorem bnd_nonneg (m : Nat) : ∀ (n : Nat) (t : Int), 0 ≤ bnd m n t
  | 0, t => by show 0 ≤ (if t = 0 then (1 : Int) else 0); split <;> decide
  | n + 1, t => by
    have : ∀ xs : List Nat, 0 ≤ (xs.map fun (x : Nat) => bnd m n (t - ((x : Int) + 1))).sum := fun xs => by
      induction xs with
      | nil => exact Int.le_refl _
      | cons x r ih => rw [List.map_cons, List.sum_cons]; exact Int.add_nonneg (bnd_nonneg m n _) ih
    exact this _
theorem bnd_high (m : Nat) {n : Nat} {t : Int} (h : (n : Int) * m < t) : bnd m n t = 0 := by
  rw [bnd_flip]
  refine bnd_low m ?_
  rw [Int.mul_add, Int.mul_one]
  omega
theorem sum_pos_mem {α : Type} (f : α → Int) : ∀ (xs : List α) (x : α), x ∈ xs → (∀ y ∈ xs, 0 ≤ f y) → 0 < f x → 0 < (xs.map f).sum
  | y :: r, x, hx, h, hp => by
    have hr : 0 ≤ (r.map f).sum := by
      have : ∀ zs : List α, (∀ y ∈ zs, 0 ≤ f y) → 0 ≤ (zs.map f).sum := fun zs => by
        induction zs with
        | nil => intro _; exact Int.le_refl _
        | cons z s ih => intro g; rw [List.map_cons, List.sum_cons]; exact Int.add_nonneg (g z List.mem_cons_self) (ih fun w hw => g w (List.mem_cons_of_mem _ hw))
      exact this r fun w hw => h w (List.mem_cons_of_mem _ hw)
    have hy := h y List.mem_cons_self
    rw [List.map_cons, List.sum_cons]
    rcases List.mem_cons.mp hx with e | e
    · subst e; omega
    · have := sum_pos_mem f r x e (fun w hw => h w (List.mem_cons_of_mem _ hw)) hp
      omega
theorem bnd_pos {m : Nat} (hm : 1 ≤ m) : ∀ {n : Nat} {t : Int}, (n : Int) ≤ t → t ≤ (n : Int) * m → 0 < bnd m n t
  | 0, t, h1, h2 => by
    have : t = 0 := by rw [show ((0 : Nat) : Int) = 0 from rfl, Int.zero_mul] at h2; omega
    subst this
    exact Int.one_pos
  | n + 1, t, h1, h2 => by
    have nm : (n : Int) * 1 ≤ (n : Int) * m := Int.mul_le_mul_of_nonneg_left (by omega) (by omega)
    have e : ((n + 1 : Nat) : Int) * m = (n : Int) * m + m := by push_cast; rw [Int.add_mul, Int.one_mul]
    rw [e] at h2
    obtain ⟨x, hx, g1, g2⟩ : ∃ x : Nat, x < m ∧ (n : Int) ≤ t - ((x : Int) + 1) ∧ t - ((x : Int) + 1) ≤ (n : Int) * m := by
      by_cases c : t - 1 ≤ (n : Int) * m
      · exact ⟨0, by omega, by push_cast at h1 ⊢; omega, by push_cast; omega⟩
      · exact ⟨(t - (n : Int) * m - 1).toNat, by omega, by omega, by omega⟩
    exact sum_pos_mem (fun (x : Nat) => bnd m n (t - ((x : Int) + 1))) _ x (List.mem_range.mpr hx) (fun y _ => bnd_nonneg m n _) (bnd_pos hm g1 g2)
/-! Chains: places, their digits, and the numbers of ways. -/
/-- how many lists of n digits below m have the sum t, as the program counts -/
def lstN (n : Nat) (m t : Int) : Int := if t = 0 then 1 else if min t ((n : Int) * (m - 1) - t) < 0 then 0 else bnd m.toNat n (t + n)
theorem bnd_least {m : Nat} (hm : 1 ≤ m) : ∀ n : Nat, bnd m n n = 1
  | 0 => rfl
  | n + 1 => by
    show ((List.range m).map fun (x : Nat) => bnd m n ((n + 1 : Nat) - ((x : Int) + 1))).sum = 1
    obtain ⟨k, rfl⟩ : ∃ k, m = k + 1 := ⟨m - 1, by omega⟩
    have z := sum_zero ((fun (x : Nat) => bnd (k + 1) n ((n + 1 : Nat) - ((x : Int) + 1))) ∘ Nat.succ) (List.range k) (fun x _ => bnd_low _ (by show ((n + 1 : Nat) : Int) - (((x + 1 : Nat) : Int) + 1) < n; omega))
    rw [List.range_succ_eq_map, List.map_cons, List.sum_cons, List.map_map, z]
    have : ((n + 1 : Nat) : Int) - (((0 : Nat) : Int) + 1) = n := by omega
    rw [this, bnd_least hm n]
    rfl
theorem lstN_bnd {n : Nat} {m t : Int} (hm : 1 ≤ m) : lstN n m t = bnd m.toNat n (t + n) := by
  unfold lstN
  by_cases h0 : t = 0
  · rw [if_pos h0, h0, Int.zero_add, bnd_least (by omega)]
  · rw [if_neg h0]
    by_cases h : min t ((n : Int) * (m - 1) - t) < 0
    · rw [if_pos h]
      rw [Int.min_def] at h
      have e : (n : Int) * (m - 1) = n * m - n := by rw [Int.mul_sub, Int.mul_one]
      by_cases a : t < 0
      · exact (bnd_low _ (by omega)).symm
      · refine (bnd_high _ ?_).symm
        rw [show ((m.toNat : Nat) : Int) = m by omega]
        split at h <;> omega
    · rw [if_neg h]
theorem lstN_nonneg (n : Nat) (m t : Int) : 0 ≤ lstN n m t := by
  unfold lstN
  split
  · decide
  · split
    · exact Int.le_refl 0
    · exact bnd_nonneg _ _ _
theorem lstN_pos {n : Nat} {m t : Int} (hm : 1 ≤ m) : 0 < lstN n m t ↔ 0 ≤ t ∧ t ≤ (n : Int) * (m - 1) := by
  have e : (n : Int) * (m - 1) = n * m - n := by rw [Int.mul_sub, Int.mul_one]
  have em : ((m.toNat : Nat) : Int) = m := by omega
  rw [lstN_bnd hm, e]
  constructor
  · intro h
    constructor
    · rcases Int.lt_or_le t 0 with a | a
      · rw [bnd_low _ (by omega)] at h; omega
      · exact a
    · rcases Int.lt_or_le ((n : Int) * m - n) t with a | a
      · rw [bnd_high _ (by rw [em]; omega)] at h; omega
      · exact a
  · rintro ⟨a, b⟩
    exact bnd_pos (by omega) (by omega) (by rw [em]; omega)
/-- the last place has no limit -/
theorem lstN_last {n : Nat} {r : Int} : 0 < lstN n (r + 1) r ↔ r = 0 ∨ (0 < r ∧ 0 < n) := by
  rcases Int.lt_or_le r 0 with h | h
  · have : lstN n (r + 1) r = 0 := by
      unfold lstN
      rw [if_neg (by omega), if_pos (by rw [Int.min_def]; split <;> omega)]
    rw [this]
    constructor <;> intro h' <;> omega
  · rw [lstN_pos (by omega), show r + 1 - 1 = r by omega]
    constructor
    · rintro ⟨a, b⟩
      by_cases z : r = 0
      · exact .inl z
      · refine .inr ⟨by omega, ?_⟩
        rcases Nat.eq_zero_or_pos n with e | e
        · rw [e] at b; simp at b; omega
        · exact e
    · rintro (a | ⟨a, b⟩)
      · subst a; simp
      · refine ⟨h, ?_⟩
        have := Int.mul_le_mul_of_nonneg_right (show (1 : Int) ≤ n by omega) h
        omega
/-- the program's sum is the number of lists -/
theorem bnd_prog {n : Nat} {m t : Int} (hm : 2 ≤ m) (ht : 0 ≤ t) : ((List.range ((t / m).toNat + 1)).map fun (j : Nat) => sgn j * (bin (n + 1) j : Nat) * (bin (t - (j : Int) * m + n).toNat n : Nat)).sum = bnd m.toNat (n + 1) (t + (n + 1 : Nat)) := by
  have em : ((m.toNat : Nat) : Int) = m := by omega
  have q0 : 0 ≤ t / m := Int.ediv_nonneg ht (by omega)
  rw [← bnd_sum m.toNat (n + 1) (t + (n + 1 : Nat)) ((t / m).toNat + 1) fun j hj => by
    rw [em]
    have : t / m < (j : Int) := by omega
    have := (Int.ediv_lt_iff_lt_mul (show 0 < m by omega)).mp this
    omega]
  unfold alt
  congr 1
  refine List.map_congr_left fun j hj => ?_
  rw [List.mem_range] at hj
  have hjm : (j : Int) * m ≤ t := by
    have := (Int.le_ediv_iff_mul_le (show 0 < m by omega)).mp (show (j : Int) ≤ t / m by omega)
    exact this
  rw [em, cps_bin (by push_cast; omega)]
  congr 3
  push_cast
  omega
/-- the chain's sizes go up, each a multiple of the one before -/
def ChOk (b : Int) : List (Int × Int) → Prop
  | [] => True
  | p :: r => b < p.1 ∧ (0 < b → p.1 % b = 0) ∧ ChOk p.1 r
/-- the places of a chain -/
def plc (c : Int) : Int → Int → List (Int × Int) → List (Int × Int × Int)
  | size, rest, [] => [(size, rest + 1, rest)]
  | size, rest, p :: r => (size, p.1 / size, rest - p.1 / size * (p.2 - c)) :: plc c p.1 (p.2 - c) r
def ways (n : Nat) (ts : List (Int × Int × Int)) : Int := (ts.map fun t => lstN n t.2.1 t.2.2).foldl (· * ·) 1
/-- where the page counts contradict each other -/
def dueC (n : Nat) : Int → Int → List (Int × Int) → Int → Option (Int × Int)
  | _, _, [], _ => none
  | size, rest, p :: r, i => if p.2 - n < 0 ∨ ¬ (0 ≤ rest - p.1 / size * (p.2 - n) ∧ rest - p.1 / size * (p.2 - n) ≤ (n : Int) * (p.1 / size - 1)) then some (i - 1, i) else dueC n p.1 (p.2 - n) r (i + 1)
theorem fold_mul : ∀ (xs : List Int) (a : Int), xs.foldl (· * ·) a = a * xs.foldl (· * ·) 1
  | [], a => by show a = a * 1; omega
  | x :: xs, a => by
    show xs.foldl (· * ·) (a * x) = a * xs.foldl (· * ·) (1 * x)
    rw [fold_mul xs (a * x), fold_mul xs (1 * x), Int.one_mul, Int.mul_assoc]
theorem ways_cons (n : Nat) (t : Int × Int × Int) (ts : List (Int × Int × Int)) : ways n (t :: ts) = lstN n t.2.1 t.2.2 * ways n ts := by
  unfold ways
  rw [List.map_cons, List.foldl_cons, fold_mul, Int.one_mul]
theorem ways_nonneg (n : Nat) : ∀ ts, 0 ≤ ways n ts
  | [] => by show (0 : Int) ≤ 1; decide
  | t :: ts => by rw [ways_cons]; exact Int.mul_nonneg (lstN_nonneg _ _ _) (ways_nonneg n ts)
theorem mul_pos_iff {a b : Int} (ha : 0 ≤ a) (hb : 0 ≤ b) : 0 < a * b ↔ 0 < a ∧ 0 < b := by
  constructor
  · intro h
    constructor
    · rcases Int.lt_or_le 0 a with g | g
      · exact g
      · have : a = 0 := by omega
        rw [this, Int.zero_mul] at h; omega
    · rcases Int.lt_or_le 0 b with g | g
      · exact g
      · have : b = 0 := by omega
        rw [this, Int.mul_zero] at h; omega
  · rintro ⟨x, y⟩
    exact Int.mul_pos x y
/-- there are ways exactly if nothing contradicts -/
theorem ways_pos (n : Nat) : ∀ (ps : List (Int × Int)) (size rest i : Int), 1 ≤ size → ChOk size ps ∨ ps = [] ∨ (size = 1 ∧ ChOk 0 ps) → (rest = 0 ∨ 0 < rest ∧ 0 < n ∨ rest < 0) →
    (0 < ways n (plc n size rest ps) ↔ (rest = 0 ∨ (0 < rest ∧ 0 < n)) ∧ dueC n size rest ps i = none)
  | [], size, rest, i, _, _, _ => by
    rw [plc, ways_cons, dueC, show ways n [] = 1 from rfl, Int.mul_one]
    show 0 < lstN n (rest + 1) rest ↔ _
    rw [lstN_last]
    simp
  | p :: r, size, rest, i, hs, hc, hr => by
    have base1 : 1 ≤ p.1 / size := by
      have : size ≤ p.1 := by
        rcases hc with h | h | ⟨h1, h⟩
        · have := h.1; omega
        · cases h
        · have := h.1; omega
      exact (Int.le_ediv_iff_mul_le (by omega)).mpr (by omega)
    have hp1 : 1 ≤ p.1 := by
      rcases hc with h | h | ⟨h1, h⟩
      · have := h.1; omega
      · cases h
      · have := h.1; omega
    have hc' : ChOk p.1 r := by
      rcases hc with h | h | ⟨h1, h⟩
      · exact h.2.2
      · cases h
      · exact h.2.2
    rw [plc, ways_cons, mul_pos_iff (lstN_nonneg _ _ _) (ways_nonneg _ _)]
    show 0 < lstN n (p.1 / size) (rest - p.1 / size * (p.2 - n)) ∧ _ ↔ _
    rw [lstN_pos base1, dueC]
    generalize hq : p.1 / size = q at base1 ⊢
    generalize hm : p.2 - (n : Int) = more
    have qm : 0 < more → more ≤ q * more := fun h => by have := Int.mul_le_mul_of_nonneg_right base1 (show 0 ≤ more by omega); omega
    have qn : more < 0 → q * more ≤ more := fun h => by
      have := Int.mul_le_mul_of_nonneg_right base1 (show 0 ≤ -more by omega)
      have e2 : q * -more = -(q * more) := Int.mul_neg _ _
      omega
    have q0 : more = 0 → q * more = 0 := fun h => by rw [h, Int.mul_zero]
    have n0 : n = 0 → (n : Int) * (q - 1) = 0 := fun h => by rw [h]; simp
    have ih := ways_pos n r p.1 more (i + 1) hp1 (.inl hc')
    constructor
    · rintro ⟨⟨a, b⟩, w⟩
      have hmo : more = 0 ∨ 0 < more ∧ 0 < n ∨ more < 0 := by
        rcases Nat.eq_zero_or_pos n with z | z
        · have := n0 z
          rcases Int.lt_trichotomy more 0 with h | h | h
          · exact .inr (.inr h)
          · exact .inl h
          · have := qm h
            exfalso
            rcases hr with hr | hr | hr <;> omega
        · omega
      obtain ⟨w1, w2⟩ := (ih hmo).mp w
      refine ⟨?_, by rw [if_neg (by omega)]; exact w2⟩
      rcases hr with hr | hr | hr
      · exact .inl hr
      · exact .inr hr
      · exfalso
        rcases w1 with h | ⟨h, _⟩
        · have := q0 h; omega
        · have := qm h; omega
    · rintro ⟨a, b⟩
      split at b
      · cases b
      · rename_i h
        have h1 : 0 ≤ more := by omega
        have h2 : 0 ≤ rest - q * more ∧ rest - q * more ≤ (n : Int) * (q - 1) := by omega
        have hmo : more = 0 ∨ (0 < more ∧ 0 < n) := by
          rcases Int.lt_or_le 0 more with g | g
          · refine .inr ⟨g, ?_⟩
            rcases Nat.eq_zero_or_pos n with z | z
            · have := qm g; omega
            · exact z
          · exact .inl (by omega)
        exact ⟨h2, (ih (hmo.elim .inl fun h => .inr (.inl h))).mpr ⟨hmo, b⟩⟩
theorem chok_pos : ∀ {ps : List (Int × Int)} {b : Int}, ChOk b ps → 0 ≤ b → ∀ p ∈ ps, b < p.1
  | [], _, _, _, _, h => by cases h
  | p :: r, b, h, hb, q, hq => by
    rcases List.mem_cons.mp hq with e | e
    · rw [e]; exact h.1
    · have := chok_pos h.2.2 (by have := h.1; omega) q e
      have := h.1
      omega
def dueX (n : Nat) (l : Int) (ps : List (Int × Int)) : Option (Int × Int) := if l - n = 0 ∨ (0 < l - n ∧ 0 < n) then dueC n 1 (l - n) ps 0 else some (-1, -1)
theorem bnd_le (m : Nat) : ∀ (n : Nat) (t : Int), bnd m n t ≤ (m : Int) ^ n
  | 0, t => by
    show (if t = 0 then (1 : Int) else 0) ≤ 1
    split <;> omega
  | n + 1, t => by
    have ih := bnd_le m n
    have : ∀ (k : Nat), ((List.range k).map fun (x : Nat) => bnd m n (t - ((x : Int) + 1))).sum ≤ (k : Int) * (m : Int) ^ n := fun k => by
      induction k with
      | zero => simp
      | succ k i =>
        rw [List.range_succ, List.map_append, List.sum_append, List.map_singleton, List.sum_singleton]
        have := ih (t - ((k : Int) + 1))
        push_cast
        rw [Int.add_mul, Int.one_mul]
        omega
    have h := this m
    show _ ≤ (m : Int) ^ (n + 1)
    rw [Int.pow_succ, Int.mul_comm]
    exact h
theorem lstN_lt {n : Nat} {m t : Int} (hn : n ≤ 50) (hm : m < 2 ^ 200) : (lstN n m t).natAbs < 2 ^ 10001 := by
  have big : ∀ k : Nat, k ≤ 10000 → (2 : Nat) ^ k < 2 ^ 10001 := fun k h => Nat.pow_lt_pow_right (by decide) (by omega)
  unfold lstN
  split
  · exact Nat.lt_of_le_of_lt (show (1 : Int).natAbs ≤ 2 ^ 0 by decide) (big 0 (by omega))
  · split
    · exact Nat.lt_of_le_of_lt (show (0 : Int).natAbs ≤ 2 ^ 0 by decide) (big 0 (by omega))
    · have a := bnd_le m.toNat n (t + n)
      have b := bnd_nonneg m.toNat n (t + n)
      have c : m.toNat ^ n ≤ (2 ^ 200) ^ n := Nat.pow_le_pow_left (by omega) n
      rw [← Nat.pow_mul] at c
      have d := big (200 * n) (by omega)
      have e : (bnd m.toNat n (t + n)).natAbs ≤ m.toNat ^ n := by
        have : ((m.toNat : Nat) : Int) ^ n = ((m.toNat ^ n : Nat) : Int) := by push_cast; rfl
        rw [this] at a
        omega
      omega
theorem plc_len (c : Int) : ∀ (ps : List (Int × Int)) (size rest : Int), (plc c size rest ps).length = ps.length + 1
  | [], _, _ => rfl
  | p :: r, size, rest => by rw [plc, List.length_cons, plc_len c r, List.length_cons]
theorem ways_app (n : Nat) (t : Int × Int × Int) : ∀ ts, ways n (ts ++ [t]) = ways n ts * lstN n t.2.1 t.2.2
  | [] => by rw [List.nil_append, ways_cons, show ways n [] = 1 from rfl, Int.mul_one, Int.one_mul]
  | u :: ts => by rw [List.cons_append, ways_cons, ways_cons, ways_app n t ts, Int.mul_assoc]
theorem ways_take {n : Nat} {ts : List (Int × Int × Int)} {i : Nat} {t : Int × Int × Int} (h : ts[i]? = some t) : ways n (ts.take (i + 1)) = ways n (ts.take i) * lstN n t.2.1 t.2.2 := by
  rw [List.take_add_one, h]
  exact ways_app n t _
theorem ways_lt {n : Nat} (hn : n ≤ 50) : ∀ {ts : List (Int × Int × Int)}, (∀ t ∈ ts, t.2.1 < 2 ^ 200) → (ways n ts).natAbs < 2 ^ (10001 * ts.length + 1)
  | [], _ => by show (1 : Int).natAbs < 2 ^ 1; decide
  | t :: ts, h => by
    have ih := ways_lt hn (ts := ts) fun u hu => h u (List.mem_cons_of_mem _ hu)
    have a := lstN_lt (t := t.2.2) hn (h t List.mem_cons_self)
    rw [ways_cons, Int.natAbs_mul, List.length_cons, show 10001 * (ts.length + 1) + 1 = 10001 + (10001 * ts.length + 1) by omega, Nat.pow_add]
    exact Nat.mul_lt_mul'' a ih
theorem no_book {n : Nat} {rest q more : Int} (hq : 1 ≤ q) (h0 : n = 0 → rest = 0) (h1 : 0 ≤ rest - q * more) : ¬ (more = 0 ∨ (0 < more ∧ 0 < n)) ↔ more < 0 := by
  rcases Nat.eq_zero_or_pos n with z | z
  · have r0 := h0 z
    have : 0 < more → more ≤ q * more := fun h => by have := Int.mul_le_mul_of_nonneg_right hq (show 0 ≤ more by omega); omega
    omega
  · omega
theorem chok_drop : ∀ {ps : List (Int × Int)} {b : Int} {i : Nat} {p : Int × Int}, ChOk b ps → ps[i]? = some p → ChOk p.1 (ps.drop (i + 1))
  | [], _, i, _, _, h => by simp at h
  | q :: r, b, 0, p, c, h => by
    cases h
    exact c.2.2
  | q :: r, b, i + 1, p, c, h => chok_drop (i := i) c.2.2 h
/-- sizes that go up, each a multiple of the one before -/
def Up (b : Int) : List Int → Prop
  | [] => True
  | x :: r => b < x ∧ (0 < b → x % b = 0) ∧ Up x r
theorem up_app : ∀ {xs : List Int} {b y : Int}, Up b xs → (∀ x, (b :: xs).getLast? = some x → x < y ∧ (0 < x → y % x = 0)) → Up b (xs ++ [y])
  | [], b, y, _, h => by
    have := h b rfl
    exact ⟨this.1, this.2, trivial⟩
  | x :: r, b, y, u, h => ⟨u.1, u.2.1, up_app u.2.2 fun z hz => h z (by rw [List.getLast?_cons_cons]; exact hz)⟩
theorem chok_up : ∀ {ps : List (Int × Int)} {b : Int}, ChOk b ps ↔ Up b (ps.map (·.1))
  | [], _ => Iff.rfl
  | p :: r, b => by
    show _ ∧ _ ∧ _ ↔ _ ∧ _ ∧ _
    rw [chok_up (ps := r)]
theorem plc_bound (n : Nat) (hn : n ≤ 50) : ∀ {ps : List (Int × Int)} {size rest : Int}, (∀ p ∈ ps, 1 ≤ p.1 ∧ p.1 < 2 ^ 88 ∧ -(2 ^ 98) < p.2 ∧ p.2 < 2 ^ 98) → 1 ≤ size → -(2 ^ 100) < rest → rest < 2 ^ 100 → ∀ t ∈ plc n size rest ps, t.2.1 < 2 ^ 200 ∧ -(2 ^ 200) < t.2.1 ∧ t.2.2 < 2 ^ 200
  | [], size, rest, _, _, r0, r1, t, ht => by
    rw [plc, List.mem_singleton] at ht
    subst ht
    refine ⟨?_, ?_, ?_⟩
    · show rest + 1 < _; omega
    · show _ < rest + 1; omega
    · show rest < _; omega
  | p :: r, size, rest, h, hs, r0, r1, t, ht => by
    have hp := h p List.mem_cons_self
    rw [plc] at ht
    have q0 : 0 ≤ p.1 / size := Int.ediv_nonneg (by omega) (by omega)
    have q1 : p.1 / size ≤ p.1 := Int.ediv_le_self _ (by omega)
    rcases List.mem_cons.mp ht with e | e
    · subst e
      refine ⟨by show p.1 / size < _; omega, by show _ < p.1 / size; omega, ?_⟩
      show rest - p.1 / size * (p.2 - n) < _
      have m : (p.1 / size * (p.2 - n)).natAbs < 2 ^ 88 * 2 ^ 99 := by
        rw [Int.natAbs_mul]
        exact Nat.mul_lt_mul'' (by omega) (by omega)
      omega
    · exact plc_bound n hn (ps := r) (fun q hq => h q (List.mem_cons_of_mem _ hq)) (by omega) (by omega) (by omega) t e
theorem ways_none : ∀ (ps : List (Int × Int)) (size rest : Int), 1 ≤ size → ChOk size ps ∨ ps = [] ∨ (size = 1 ∧ ChOk 0 ps) → 0 < rest → ¬ 0 < ways 0 (plc ((0 : Nat) : Int) size rest ps)
  | [], size, rest, _, _, hr => by
    rw [plc, ways_cons, show ways 0 [] = 1 from rfl, Int.mul_one]
    show ¬ 0 < lstN 0 (rest + 1) rest
    rw [lstN_last]
    omega
  | p :: r, size, rest, hs, hc, hr => by
    have hp : size ≤ p.1 ∧ ChOk p.1 r := by
      rcases hc with h | h | ⟨h1, h⟩
      · have := h.1; exact ⟨by omega, h.2.2⟩
      · cases h
      · have := h.1; exact ⟨by omega, h.2.2⟩
    have base1 : 1 ≤ p.1 / size := (Int.le_ediv_iff_mul_le (by omega)).mpr (by omega)
    rw [plc, ways_cons, mul_pos_iff (lstN_nonneg _ _ _) (ways_nonneg _ _)]
    show ¬ (0 < lstN 0 (p.1 / size) (rest - p.1 / size * (p.2 - ((0 : Nat) : Int))) ∧ _)
    rw [lstN_pos base1]
    rintro ⟨⟨a, b⟩, w⟩
    have z0 : ((0 : Nat) : Int) * (p.1 / size - 1) = 0 := by simp
    rw [z0] at b
    refine ways_none r p.1 (p.2 - ((0 : Nat) : Int)) (by omega) (.inl hp.2) ?_ w
    generalize p.2 - ((0 : Nat) : Int) = more at a b ⊢
    rcases Int.lt_or_le 0 more with h | h
    · exact h
    · exfalso
      have := Int.mul_le_mul_of_nonneg_left h (show 0 ≤ p.1 / size by omega)
      rw [Int.mul_zero] at this
      omega
theorem ways_due {n : Nat} {l : Int} {ps : List (Int × Int)} (hl : 0 ≤ l) (hc : ChOk 0 ps) : 0 < ways n (plc n 1 (l - n) ps) ↔ dueX n l ps = none := by
  have h := ways_pos n ps 1 (l - n) 0 (Int.le_refl 1) (.inr (.inr ⟨rfl, hc⟩)) 
  unfold dueX
  by_cases z : l - n = 0 ∨ (0 < l - n ∧ 0 < n)
  · rw [if_pos z, h (z.elim .inl fun w => .inr (.inl w))]
    exact ⟨fun a => a.2, fun a => ⟨z, a⟩⟩
  · rw [if_neg z]
    constructor
    · intro w
      exfalso
      by_cases y : l - n < 0
      · exact z ((h (.inr (.inr y))).mp w).1
      · -- no chapter, but lines
        have n0 : n = 0 := by omega
        subst n0
        exact ways_none ps 1 (l - ((0 : Nat) : Int)) (Int.le_refl 1) (.inr (.inr ⟨rfl, hc⟩)) (by omega) w
    · intro w; cases w
theorem dueC_le (n : Nat) : ∀ {ps : List (Int × Int)} {size rest k i j : Int}, dueC n size rest ps k = some (i, j) → k - 1 ≤ i ∧ i ≤ k + ps.length ∧ k ≤ j ∧ j ≤ k + ps.length
  | [], _, _, _, _, _, h => by rw [dueC] at h; cases h
  | p :: r, size, rest, k, i, j, h => by
    rw [dueC] at h
    split at h
    · have h' := Option.some.inj h
      injection h' with a b
      rw [List.length_cons]
      push_cast
      omega
    · have := dueC_le n h
      rw [List.length_cons]
      push_cast
      omega
theorem dueX_le {n : Nat} {l i j : Int} {ps : List (Int × Int)} (h : dueX n l ps = some (i, j)) : -1 ≤ i ∧ i ≤ ps.length ∧ -1 ≤ j ∧ j ≤ ps.length := by
  unfold dueX at h
  split at h
  · have := dueC_le n h; omega
  · have h' := Option.some.inj h
    injection h' with a b
    omega
theorem set_id {α : Type} : ∀ {xs : List α} {i : Nat} {v : α}, xs[i]? = some v → xs.set i v = xs
  | [], _, _, h => by simp at h
  | x :: r, 0, v, h => by cases h; rfl
  | x :: r, i + 1, v, h => by
    show x :: r.set i v = x :: r
    rw [set_id (i := i) h]
theorem chok_set {ps : List (Int × Int)} {b z : Int} {i : Nat} {p : Int × Int} (h : ChOk b ps) (hp : ps[i]? = some p) : ChOk b (ps.set i (p.1, z)) := by
  rw [chok_up] at h ⊢
  rw [List.map_set]
  rw [set_id (by rw [List.getElem?_map, hp]; rfl)]
  exact h
/-! Page counts of one edition add up. -/
def Bq (m n : Nat) (s : Int) : Int := bnd m n (s + n)
def An (n : Nat) (f : Int) : Int := cps n (f + n)
theorem An_step (n : Nat) (f : Int) : An (n + 1) f = An (n + 1) (f - 1) + An n f := by
  unfold An
  have := cps_succ n (f + (n + 1 : Nat))
  rw [this]
  congr 2 <;> (push_cast; omega)
theorem Bq_step (m n : Nat) (s : Int) : Bq m (n + 1) s = Bq m (n + 1) (s - 1) + (Bq m n s - Bq m n (s - m)) := by
  unfold Bq
  have := bnd_step m n (s + (n + 1 : Nat))
  rw [this]
  rw [show s + ((n + 1 : Nat) : Int) - 1 = s - 1 + ((n + 1 : Nat) : Int) by omega, show s - 1 + ((n + 1 : Nat) : Int) - m = s - m + n by push_cast; omega, show bnd m n (s - 1 + ((n + 1 : Nat) : Int)) = bnd m n (s + n) by congr 1; push_cast; omega]
theorem An_neg {n : Nat} {f : Int} (h : f < 0) : An n f = 0 := cps_low (by omega)
theorem Bq_neg {m n : Nat} {s : Int} (h : s < 0) : Bq m n s = 0 := bnd_low m (by omega)
def FF (m N n : Nat) (r : Int) : Int := ((List.range N).map fun (f : Nat) => Bq m n (r - (f : Int) * m) * An n f).sum
theorem FF_succ (m N n : Nat) (r : Int) : FF m (N + 1) n r = FF m N n r + Bq m n (r - (N : Int) * m) * An n N := by
  unfold FF
  rw [List.range_succ, List.map_append, List.sum_append, List.map_singleton, List.sum_singleton]
theorem FF_diff (m n : Nat) (r : Int) : ∀ N : Nat, FF m N (n + 1) r - FF m N (n + 1) (r - 1) = FF m N n r - Bq m n (r - (N : Int) * m) * An (n + 1) ((N : Int) - 1)
  | 0 => by
    rw [An_neg (show ((0 : Nat) : Int) - 1 < 0 by decide), Int.mul_zero]
    rfl
  | N + 1 => by
    have ih := FF_diff m n r N
    rw [FF_succ, FF_succ, FF_succ]
    have b := Bq_step m n (r - (N : Int) * m)
    have a := An_step n (N : Int)
    rw [show r - 1 - (N : Int) * m = r - (N : Int) * m - 1 by omega, show ((N + 1 : Nat) : Int) - 1 = N by omega]
    have e : r - ((N + 1 : Nat) : Int) * m = r - (N : Int) * m - m := by push_cast; rw [Int.add_mul, Int.one_mul]; omega
    rw [e]
    generalize r - (N : Int) * m = x at *
    rw [b, Int.add_mul, Int.sub_mul]
    have c : Bq m n x * An (n + 1) N = Bq m n x * An (n + 1) ((N : Int) - 1) + Bq m n x * An n N := by rw [a, Int.mul_add]
    omega
theorem FF_all {m : Nat} (hm : 1 ≤ m) {N : Nat} : ∀ (n : Nat) (r : Int), r < (N : Int) * m → FF m N n r = An n r := by
  have neg : ∀ (n : Nat) (r : Int), r < 0 → FF m N n r = An n r := fun n r h => by
    rw [An_neg h]
    unfold FF
    refine sum_zero _ _ fun f _ => ?_
    have : 0 ≤ (f : Int) * m := Int.mul_nonneg (by omega) (by omega)
    rw [Bq_neg (by omega), Int.zero_mul]
  intro n
  induction n with
  | zero =>
    intro r h
    rcases Int.lt_or_le r 0 with g | g
    · exact neg 0 r g
    · have hN : 1 ≤ N := by
        rcases Nat.eq_zero_or_pos N with z | z
        · rw [z] at h; simp at h; omega
        · exact z
      obtain ⟨M, rfl⟩ : ∃ M, N = M + 1 := ⟨N - 1, by omega⟩
      unfold FF
      have z := sum_zero ((fun (f : Nat) => Bq m 0 (r - (f : Int) * m) * An 0 f) ∘ Nat.succ) (List.range M) (fun f _ => by
        show Bq m 0 (r - ((f + 1 : Nat) : Int) * m) * An 0 ((f + 1 : Nat) : Int) = 0
        have : An 0 ((f + 1 : Nat) : Int) = 0 := by
          unfold An
          rw [cps_0, if_neg (by omega)]
        rw [this, Int.mul_zero])
      rw [List.range_succ_eq_map, List.map_cons, List.sum_cons, List.map_map, z]
      show Bq m 0 (r - ((0 : Nat) : Int) * m) * An 0 ((0 : Nat) : Int) + 0 = An 0 r
      have a0 : An 0 ((0 : Nat) : Int) = 1 := rfl
      rw [a0, Int.mul_one, Int.add_zero, show r - ((0 : Nat) : Int) * m = r by simp]
      unfold Bq An
      rw [cps_0]
      rfl
  | succ n ih =>
    have key : ∀ k : Nat, ∀ r : Int, r = k → r < (N : Int) * m → FF m N (n + 1) r = An (n + 1) r := by
      intro k
      induction k with
      | zero =>
        intro r hr h
        have d := FF_diff m n r N
        rw [neg (n + 1) (r - 1) (by omega), An_neg (show r - 1 < 0 by omega), ih r h, Bq_neg (show r - (N : Int) * m < 0 by omega), Int.zero_mul] at d
        rw [An_step, An_neg (show r - 1 < 0 by omega)]
        omega
      | succ k ihk =>
        intro r hr h
        have d := FF_diff m n r N
        rw [ihk (r - 1) (by omega) (by omega), ih r h, Bq_neg (show r - (N : Int) * m < 0 by omega), Int.zero_mul] at d
        rw [An_step]
        omega
    intro r h
    rcases Int.lt_or_le r 0 with g | g
    · exact neg (n + 1) r g
    · exact key r.toNat r (by omega) h
/-- no limit is felt -/
theorem bnd_free {m n : Nat} {t : Int} (h : t - m < n) : bnd m n t = cps n t := by
  have e := bnd_sum m n t 1 fun j hj => by
    have : (m : Int) ≤ (j : Int) * m := by have := Int.mul_le_mul_of_nonneg_right (show (1 : Int) ≤ j by omega) (show (0 : Int) ≤ m by omega); omega
    omega
  rw [← e]
  unfold alt
  rw [show List.range 1 = [0] from rfl, List.map_singleton, List.sum_singleton, bin_0, show sgn 0 = 1 from rfl]
  simp
theorem lstN_free {n : Nat} {m f : Int} (hf : 0 ≤ f) (h : f < m) : lstN n m f = An n f := by
  rw [lstN_bnd (by omega)]
  exact bnd_free (by rw [show ((m.toNat : Nat) : Int) = m by omega]; omega)
theorem lstN_Bq {n : Nat} {m s : Int} (hm : 1 ≤ m) : lstN n m s = Bq m.toNat n s := lstN_bnd hm
theorem lstN_neg {n : Nat} {m s : Int} (h : s < 0) : lstN n m s = 0 := by
  unfold lstN
  rw [if_neg (by omega), if_pos (by rw [Int.min_def]; split <;> omega)]
theorem An_bin {n : Nat} {f : Int} (h : 0 ≤ f) : An (n + 1) f = (bin (f + n).toNat n : Nat) := by
  unfold An
  rw [cps_bin (by omega)]
  congr 2
  omega
/-- the places ahead of the last one, and where they end -/
def preW (n : Nat) : Int → Int → List (Int × Int) → Int
  | _, _, [] => 1
  | size, rest, p :: r => lstN n (p.1 / size) (rest - p.1 / size * (p.2 - n)) * preW n p.1 (p.2 - n) r
def endS (n : Nat) : Int → Int → List (Int × Int) → Int × Int
  | size, rest, [] => (size, rest)
  | _, _, p :: r => endS n p.1 (p.2 - n) r
theorem ways_end (n : Nat) : ∀ (ps : List (Int × Int)) (size rest : Int), ways n (plc n size rest ps) = preW n size rest ps * lstN n ((endS n size rest ps).2 + 1) (endS n size rest ps).2
  | [], size, rest => by rw [plc, ways_cons, preW, endS, show ways n [] = 1 from rfl, Int.mul_one, Int.one_mul]
  | p :: r, size, rest => by rw [plc, ways_cons, preW, endS, ways_end n r, Int.mul_assoc]
theorem ways_more (n : Nat) (p : Int × Int) : ∀ (ps : List (Int × Int)) (size rest : Int), ways n (plc n size rest (ps ++ [p])) = preW n size rest ps * (lstN n (p.1 / (endS n size rest ps).1) ((endS n size rest ps).2 - p.1 / (endS n size rest ps).1 * (p.2 - n)) * lstN n (p.2 - n + 1) (p.2 - n))
  | [], size, rest => by
    show ways n (plc n size rest [p]) = _
    rw [plc, plc, ways_cons, ways_cons, preW, endS, show ways n [] = 1 from rfl, Int.mul_one, Int.one_mul]
  | q :: r, size, rest => by
    show ways n (plc n size rest (q :: (r ++ [p]))) = _
    rw [plc, ways_cons, preW, endS, ways_more n p r, Int.mul_assoc]
theorem endS_app (n : Nat) (p : Int × Int) : ∀ (ps : List (Int × Int)) (size rest : Int), endS n size rest (ps ++ [p]) = (p.1, p.2 - n)
  | [], _, _ => rfl
  | q :: r, size, rest => by show endS n q.1 (q.2 - n) (r ++ [p]) = _; exact endS_app n p r _ _
/-- all page counts of one more edition -/
theorem ways_sum {n : Nat} {ps : List (Int × Int)} {w m l : Int} {N : Nat} (hm : 1 ≤ m) (he : w / (endS n 1 (l - n) ps).1 = m) (h0 : 0 ≤ (endS n 1 (l - n) ps).2) (hN : (endS n 1 (l - n) ps).2 < (N : Int) * m) :
    ((List.range N).map fun (f : Nat) => ways n (plc n 1 (l - n) (ps ++ [(w, (n : Int) + f)]))).sum = ways n (plc n 1 (l - n) ps) := by
  rw [ways_end]
  generalize hE : endS n 1 (l - n) ps = E at he h0 hN ⊢
  have e : ((List.range N).map fun (f : Nat) => ways n (plc n 1 (l - n) (ps ++ [(w, (n : Int) + f)]))) = (List.range N).map fun (f : Nat) => preW n 1 (l - n) ps * (Bq m.toNat n (E.2 - (f : Int) * m.toNat) * An n f) := List.map_congr_left fun f _ => by
    rw [ways_more, hE]
    show _ * (lstN n (w / E.1) (E.2 - w / E.1 * ((n : Int) + f - n)) * lstN n ((n : Int) + f - n + 1) ((n : Int) + f - n)) = _
    rw [he, show (n : Int) + f - n = f by omega, lstN_Bq hm, lstN_free (by omega) (by omega), show ((m.toNat : Nat) : Int) = m by omega, Int.mul_comm m f]
  have s : ∀ (c : Int) (g : Nat → Int) (xs : List Nat), (xs.map fun f => c * g f).sum = c * (xs.map g).sum := fun c g xs => by
    induction xs with
    | nil => simp
    | cons x r ih => rw [List.map_cons, List.sum_cons, List.map_cons, List.sum_cons, ih, Int.mul_add]
  rw [e, s (preW n 1 (l - n) ps) (fun (f : Nat) => Bq m.toNat n (E.2 - (f : Int) * m.toNat) * An n f) (List.range N)]
  congr 1
  have := FF_all (m := m.toNat) (by omega) (N := N) n E.2 (by rw [show ((m.toNat : Nat) : Int) = m by omega]; exact hN)
  unfold FF at this
  rw [this, lstN_free h0 (by omega)]
theorem binC_up (n k : Nat) (h : k ≤ n) : (k + 1) * HS.binC (n + 1) (k + 1) = (n + 1) * HS.binC n k := by
  show (k + 1) * (HS.binC n k + HS.binC n (k + 1)) = _
  rw [Nat.mul_add, HS.binC_next, ← Nat.add_mul]
  congr 1
  omega
theorem plc_bound2 (n : Nat) (hn : n ≤ 50) : ∀ {ps : List (Int × Int)} {size rest : Int}, (∀ p ∈ ps, 1 ≤ p.1 ∧ p.1 < 2 ^ 100 ∧ -(2 ^ 98) < p.2 ∧ p.2 < 2 ^ 98) → 1 ≤ size → -(2 ^ 100) < rest → rest < 2 ^ 100 → ∀ t ∈ plc n size rest ps, t.2.1 < 2 ^ 200 ∧ -(2 ^ 200) < t.2.1 ∧ t.2.2 < 2 ^ 200
  | [], size, rest, _, _, r0, r1, t, ht => by
    rw [plc, List.mem_singleton] at ht
    subst ht
    refine ⟨?_, ?_, ?_⟩
    · show rest + 1 < _; omega
    · show _ < rest + 1; omega
    · show rest < _; omega
  | p :: r, size, rest, h, hs, r0, r1, t, ht => by
    have hp := h p List.mem_cons_self
    rw [plc] at ht
    have q0 : 0 ≤ p.1 / size := Int.ediv_nonneg (by omega) (by omega)
    have q1 : p.1 / size ≤ p.1 := Int.ediv_le_self _ (by omega)
    rcases List.mem_cons.mp ht with e | e
    · subst e
      refine ⟨by show p.1 / size < _; omega, by show _ < p.1 / size; omega, ?_⟩
      show rest - p.1 / size * (p.2 - n) < _
      have m : (p.1 / size * (p.2 - n)).natAbs < 2 ^ 100 * 2 ^ 99 := by
        rw [Int.natAbs_mul]
        exact Nat.mul_lt_mul'' (by omega) (by omega)
      omega
    · exact plc_bound2 n hn (ps := r) (fun q hq => h q (List.mem_cons_of_mem _ hq)) (by omega) (by omega) (by omega) t e
theorem chok_app : ∀ {ps : List (Int × Int)} {b : Int} {p : Int × Int}, ChOk b ps → (∀ x, (b :: ps.map (·.1)).getLast? = some x → x < p.1 ∧ (0 < x → p.1 % x = 0)) → ChOk b (ps ++ [p]) := by
  intro ps b p h g
  rw [chok_up] at h ⊢
  rw [List.map_append]
  exact up_app h g

section
variable {P : Program} {w : World} {K : PySem.W.Frag} {mg : Str → Option Value} {base : Heap} {A : Ad}
def sp__law_rng (K : PySem.W.Frag) : Sp := fun vs H Q _ => ∃ (a : Addr) (ns : List Int), vs = [.ref a] ∧ (SqL K H a (ns.map V.int) ∧ ns.length ≤ 63 ∧ ∀ H' s, HS.Keep (fun _ => False) H H' → H s = none → Rng H' s 0 → Q (.ref s) H')
theorem ok__law_rng (T : Txt K mg A) : FnOk P w K mg base CX0 1 A.a__law_rng A.d__law_rng ["script"] (sp__law_rng K) := by
  refine T.F__law_rng.ok sc__law_rng (fun vs H Q E h => ?_) (fun cdv A0 outer s H vs Q E hr h => ?_)
  · obtain ⟨a, ns, rfl, hw⟩ := h
    rfl
  · obtain ⟨a, ns, rfl, hw⟩ := h
    refine ⟨_, (pss_cons (ps_asg (pe_tup (pa_cons pe_int (pa_cons pe_int pa_nil))) (HS.kgt K (pg_tup rfl (pgs_cons (pg_name (i := 1) sc__law_rng.nd rfl (.inl rfl)) (pgs_cons (pg_name (i := 2) sc__law_rng.nd rfl (.inl rfl)) pgs_nil)))))
    (pss_cons (ps_for PassesOwn.never rfl (HS.kil K (pi_list (pe_slice (HS.sll K) (pv 0) po_none (po_some pe_int)))) (pg_name (i := 3) sc__law_rng.nd rfl (.inl rfl))
      (pss_cons (ps_set (i := 4) sc__law_rng.nd rfl (.inl rfl) (pe_callB call_abs (by rfl) T.z_abs (by decide +kernel) (pa_cons (pv 3) pa_nil)))
    (pss_cons (ps_if (pt_cmpR op_ge (pv 4) (HS.pe_fold (1000000000000000000) (pe_op op_pow pe_int pe_int) (by intro σ H Q q; walk_at "fold")) (nomark _))
      (pss_one (ps_set (i := 1) sc__law_rng.nd rfl (.inl rfl) (pe_op op_add (pe_op op_mulW (pv 1) (HS.pe_fold (1000000000000000000000000000000000000000000000000000000000000) (pe_op op_pow pe_int pe_int) (by intro σ H Q q; walk_at "fold"))) (pe_op op_mod (pv 4) (HS.pe_fold (1000000000000000000000000000000000000000000000000000000000000) (pe_op op_pow pe_int pe_int) (by intro σ H Q q; walk_at "fold"))))))
      pss_nil)
    (pss_one (ps_set (i := 2) sc__law_rng.nd rfl (.inl rfl) (pe_op op_mod (pe_op op_add (pe_op op_add (pe_op op_mul (pv 2) pe_int) (pe_op op_mod (pv 3) pe_int)) pe_int) pe_int))))))
    (pss_one (ps_ret (pe_lst (pa_cons (pv 1) (pa_cons (pv 2) (pa_cons pe_int pa_nil)))))))), ?_⟩
    obtain ⟨hS, hl, k⟩ := hw
    walk_at "hs"
    intro t ht
    have hS2 := HS.Keep.sq (S := fun _ => False) (HS.Keep.new (o := .tup [.int 0, .int 88675123]) ht) hS id
    walk_at "hs"
    intro p hp
    have ec : cutV (ns.map V.int) none (some 63) = ns.map V.int := by
      rw [show (63 : Int) = ((63 : Nat) : Int) from rfl, HS.cut_to, List.take_of_length_le (by rw [List.length_map]; exact hl)]
    rw [ec]
    walk_at "hs"
    refine ⟨⟨_, HS.sq upd_same⟩, for_list (xs := ns.map V.int) (fun i σ H1 => H1 = upd (upd H t (.tup [.int 0, .int 88675123])) p (.lst (ns.map V.int)) ∧ i ≤ ns.length ∧ ∃ (dg m : Int) (x3 x4 : Option V), σ = [some (.ref a), some (.int dg), some (.int m), x3, x4] ∧ 0 ≤ dg ∧ dg < 2 ^ (200 * (i + 1)) ∧ 0 ≤ m ∧ m < 2 ^ 61) ?_ ?_ ?_ ?_⟩
    · exact ⟨rfl, Nat.zero_le _, _, _, _, _, rfl, by decide, by decide, by decide, by decide⟩
    · rintro i σ H1 _ ⟨rfl, _⟩
      exact HS.sq upd_same
    · rintro i x σ H1 hi ⟨rfl, _, dg, m, x3, x4, rfl, hd0, hd1, hm0, hm1⟩
      obtain ⟨z, rfl, _, hil⟩ := HS.get_int hi
      have hil' : i ≤ 63 := by omega
      walk_at "hs"
      have b0 : 0 ≤ (m * 1000003 + z % 2305843009213693921 + 7) % 2305843009213693951 := Int.emod_nonneg _ (by decide)
      have b1 : (m * 1000003 + z % 2305843009213693921 + 7) % 2305843009213693951 < 2 ^ 61 := Int.lt_trans (Int.emod_lt_of_pos _ (by decide)) (by decide)
      generalize (if z < 0 then -z else z) = y
      refine HS.itd (fun hy => ?_) (fun hy => ?_)
      · walk_at "hs"
        refine ⟨HS.mulW (200 * (i + 1)) 200 hd0 hd1 (by decide) (by decide) (by omega) (by decide) (by omega), ?_⟩
        walk_at "hs"
        have q0 : 0 ≤ y % 1000000000000000000000000000000000000000000000000000000000000 := Int.emod_nonneg _ (by decide)
        have q1 : y % 1000000000000000000000000000000000000000000000000000000000000 < 10 ^ 60 := Int.emod_lt_of_pos _ (by decide)
        obtain ⟨r0, r1⟩ := rng_step hd0 hd1 q0 q1
        exact ⟨rfl, hil, _, _, _, _, rfl, r0, r1, b0, b1⟩
      · walk_at "hs"
        exact ⟨rfl, hil, _, _, _, _, rfl, hd0, Int.lt_trans hd1 (pow_up i), b0, b1⟩
    · rintro σ H1 ⟨rfl, _, dg, m, x3, x4, rfl, hd0, hd1, hm0, hm1⟩
      walk_at "hs"
      intro s hs
      have K1 := (HS.Keep.new (S := fun _ => False) (o := .tup [.int 0, .int 88675123]) ht).trans (HS.Keep.new (o := .lst (ns.map V.int)) hp)
      exact k _ s (K1.trans (.new hs)) (K1.free hs id) ⟨dg, m, 0, upd_same, hd0, hm0, hm1, by decide, by decide⟩
def sp__law_draw (K : PySem.W.Frag) : Sp := fun vs H Q _ => ∃ (s : Addr) (many : Int) (n : Nat), vs = [.ref s, .int many] ∧ (Rng H s n ∧ 0 < many ∧ many < 2 ^ 200 ∧ n < 2 ^ 33 ∧ ∀ H' v, HS.Keep (fun a => a = s) H H' → Rng H' s (n + 1) → 0 ≤ v → v < many → Q (.int v) H')
theorem ok__law_draw (T : Txt K mg A) : FnOk P w K mg base CX0 1 A.a__law_draw A.d__law_draw ["rng", "limit"] (sp__law_draw K) := by
  refine T.F__law_draw.ok sc__law_draw (fun vs H Q E h => ?_) (fun cdv A0 outer s H vs Q E hr h => ?_)
  · obtain ⟨s, many, n, rfl, hw⟩ := h
    rfl
  · obtain ⟨s, many, n, rfl, hw⟩ := h
    refine ⟨_, (pss_cons (ps_if (pt_cmpR op_gt (pe_ix (HS.ixl K) (pv 0) pe_int (fun _ _ => rfl)) pe_int (nomark _))
      (pss_cons (ps_set (i := 2) sc__law_draw.nd rfl (.inl rfl) (pe_op op_mod (pe_ix (HS.ixl K) (pv 0) pe_int (fun _ _ => rfl)) (pv 1)))
    (pss_cons (ps_asg (pe_op op_fdivW (pe_ix (HS.ixl K) (pv 0) pe_int (fun _ _ => rfl)) (pv 1)) (pg_sub (pv 0) pe_int set_list))
    (pss_one (ps_ret (pv 2)))))
      pss_nil)
    (pss_cons (ps_asg (pe_op op_add (pe_ix (HS.ixl K) (pv 0) pe_int (fun _ _ => rfl)) pe_int) (pg_sub (pv 0) pe_int set_list))
    (pss_cons (ps_set (i := 3) sc__law_draw.nd rfl (.inl rfl) (pe_op op_mod (pe_op HS.op_powW (pe_op op_add (pe_ix (HS.ixl K) (pv 0) pe_int (fun _ _ => rfl)) (pe_op op_mul pe_int (pe_ix (HS.ixl K) (pv 0) pe_int (fun _ _ => rfl)))) pe_int) pe_int))
    (pss_cons (ps_set (i := 3) sc__law_draw.nd rfl (.inl rfl) (pe_op op_mod (pe_op HS.op_powW (pe_op op_add (pv 3) (pe_op op_mul pe_int (pe_ix (HS.ixl K) (pv 0) pe_int (fun _ _ => rfl)))) pe_int) pe_int))
    (pss_one (ps_ret (pe_op op_mod (pe_op op_fdivW (pv 3) pe_int) (pv 1)))))))), ?_⟩
    obtain ⟨⟨l, m, c, hs, hl0, hm0, hm1, hc0, hc1⟩, hn0, hn1, hn, k⟩ := hw
    walk_at "hs"
    refine HS.itd (fun hl => ?_) (fun hl => ?_)
    · walk_at "hs"
      refine ⟨HS.divW 200 hn0 hn1 (by decide) (by decide), ?_⟩
      walk_at "hs"
      exact k _ _ (by walk_at "kp") ⟨l / many, m, c, upd_same, Int.ediv_nonneg hl0 (by omega), hm0, hm1, hc0, by omega⟩ (Int.emod_nonneg _ (by omega)) (Int.emod_lt_of_pos _ hn0)
    · walk_at "hs"
      refine ⟨HS.powW 66 (by omega) (by omega) (by decide) (by decide), ?_⟩
      walk_at "hs"
      have m0 : 0 ≤ (m + 998244353 * (c + 1)) ^ Int.toNat 3 % 162259276829213363391578010288127 := Int.emod_nonneg _ (by decide)
      have m1 : (m + 998244353 * (c + 1)) ^ Int.toNat 3 % 162259276829213363391578010288127 < 162259276829213363391578010288127 := Int.emod_lt_of_pos _ (by decide)
      generalize (m + 998244353 * (c + 1)) ^ Int.toNat 3 % 162259276829213363391578010288127 = z at m0 m1 ⊢
      refine ⟨HS.powW 128 (by omega) (by omega) (by decide) (by decide), ?_⟩
      walk_at "hs"
      exact k _ _ (by walk_at "kp") ⟨l, m, c + 1, upd_same, hl0, hm0, hm1, by omega, by omega⟩ (Int.emod_nonneg _ (by omega)) (Int.emod_lt_of_pos _ hn0)
def sp_check_not_negative (K : PySem.W.Frag) : Sp := fun vs H Q _ => ∃ (j : Int), vs = [.int j] ∧ (0 ≤ j ∧ Q .non H)
theorem ok_check_not_negative (T : Txt K mg A) : FnOk P w K mg base CX0 1 A.a_check_not_negative A.d_check_not_negative ["number"] (sp_check_not_negative K) := by
  refine T.F_check_not_negative.ok sc_check_not_negative (fun vs H Q E h => ?_) (fun cdv A0 outer s H vs Q E hr h => ?_)
  · obtain ⟨j, rfl, hw⟩ := h
    rfl
  · obtain ⟨j, rfl, hw⟩ := h
    refine ⟨_, (pss_one (ps_if (pt_cmpR op_lt (pv 0) pe_int (nomark _))
      (pss_one ps_never)
      pss_nil)), ?_⟩
    obtain ⟨h, k⟩ := hw
    walk_at "hs"
    refine HS.it0 (by omega) ?_
    walk_at "hs"
    exact k
def sp_check_chain (K : PySem.W.Frag) : Sp := fun vs H Q _ => ∃ (b : Addr) (zs : List V) (ps : List (Int × Int)), vs = [.ref b] ∧ (SqL K H b zs ∧ HS.Prs H zs ps ∧ ChOk 0 ps ∧ (∀ p ∈ ps, p.1 < 2 ^ 150) ∧ ∀ H', HS.Keep (fun _ => False) H H' → Q .non H')
theorem ok_check_chain (T : Txt K mg A) : FnOk P w K mg base CX0 1 A.a_check_chain A.d_check_chain ["chain"] (sp_check_chain K) := by
  refine T.F_check_chain.ok sc_check_chain (fun vs H Q E h => ?_) (fun cdv A0 outer s H vs Q E hr h => ?_)
  · obtain ⟨b, zs, ps, rfl, hw⟩ := h
    rfl
  · obtain ⟨b, zs, ps, rfl, hw⟩ := h
    refine ⟨_, (pss_cons (ps_set (i := 1) sc_check_chain.nd rfl (.inl rfl) pe_int)
    (pss_one (ps_for PassesOwn.never rfl (HS.kien K (pi_enum (by rfl) T.z_enumerate (pa_cons (pv 0) pa_nil))) (HS.kgt K (pg_tup rfl (pgs_cons (pg_name (i := 2) sc_check_chain.nd rfl (.inl rfl)) (pgs_cons (HS.kgt K (pg_tup rfl (pgs_cons (pg_name (i := 3) sc_check_chain.nd rfl (.inl rfl)) (pgs_cons (pg_name (i := 4) sc_check_chain.nd rfl (.inl rfl)) pgs_nil)))) pgs_nil))))
      (pss_cons (ps_if (PW.pt (pw_or (pt_cmpR op_le (pv 3) (pv 1) (nomark _)) (pw_or1 (PW.pt (pw_and (pt_cmpR op_gt (pv 1) pe_int (nomark _)) (pw_and1 (pt_cmpR op_ne (pe_op op_mod (pv 3) (pv 1)) pe_int (nomark _))))))))
      (pss_one ps_never)
      pss_nil)
    (pss_one (ps_set (i := 1) sc_check_chain.nd rfl (.inl rfl) (pv 3))))))), ?_⟩
    obtain ⟨hb, hP, hc, hB, k⟩ := hw
    walk_at "hs"
    refine ⟨b, zs, rfl, hb, for_it walk_enum (fun i σ H' => HS.Keep (fun _ => False) H H' ∧ ∃ (bf : Int) (x2 x3 x4 : Option V), σ = [some (.ref b), some (.int bf), x2, x3, x4] ∧ 0 ≤ bf ∧ bf < 2 ^ 150 ∧ ChOk bf (ps.drop i)) ⟨.refl, 0, _, _, _, rfl, Int.le_refl 0, by decide, hc⟩ (fun i σ H' _ ⟨K', _⟩ => K'.sq hb id) ?_ ?_⟩
    · rintro i x σ H1 H2 hi ⟨K1, bf, x2, x3, x4, rfl, hb0, hb1, hch⟩ ⟨T1, u, v, rfl, hT1, rfl, e1, e2⟩
      cases e1
      obtain ⟨q, p, rfl, hp, hq⟩ := HS.Prs.at hP e2
      have hil := (List.getElem?_eq_some_iff.mp hp).1
      have hpB := hB p (List.mem_of_getElem? hp)
      have ed : ps.drop i = p :: ps.drop (i + 1) := by rw [List.drop_eq_getElem_cons hil]; congr 1; rw [List.getElem?_eq_getElem hil] at hp; exact Option.some.inj hp
      rw [ed] at hch
      obtain ⟨c1, c2, c3⟩ := hch
      have KT : HS.Keep (fun _ => False) H1 (upd H1 T1 (.tup [.int (i : Nat), .ref q])) := .new hT1
      have hq2 := KT _ _ (K1 _ _ hq id) id
      have hT2 := upd_same (H := H1) (a := T1) (o := .tup [.int (i : Nat), .ref q])
      have K2 := K1.trans KT
      generalize upd H1 T1 (.tup [.int (i : Nat), .ref q]) = H2 at KT hq2 hT2 K2 ⊢
      walk_at "hs"
      refine HS.it0 (by omega) ?_
      walk_at "hs"
      refine HS.itd (fun h => ?_) (fun h => ?_)
      · walk_at "hs"
        refine HS.in0 (c2 h) ?_
        walk_at "hs"
        exact ⟨K2, p.1, _, _, _, rfl, by omega, hpB, c3⟩
      · walk_at "hs"
        exact ⟨K2, p.1, _, _, _, rfl, by omega, hpB, c3⟩
    · rintro σ H1 ⟨K1, bf, x2, x3, x4, rfl, _⟩
      walk_at "hs"
      exact k _ K1
def sp_check_demands (K : PySem.W.Frag) : Sp := fun vs H Q _ => ∃ (b : Addr) (zs : List V) (ps : List (Int × Int)) (c l : Int), vs = [.int c, .int l, .ref b] ∧ (0 ≤ c ∧ 0 ≤ l ∧ SqL K H b zs ∧ HS.Prs H zs ps ∧ ChOk 0 ps ∧ (∀ p ∈ ps, p.1 < 2 ^ 150) ∧ ∀ H', HS.Keep (fun _ => False) H H' → Q .non H')
theorem ok_check_demands (T : Txt K mg A) : FnOk P w K mg base CX0 2 A.a_check_demands A.d_check_demands ["chapters", "lines", "chain"] (sp_check_demands K) := by
  have G_check_not_negative : FnOk P w K mg base CX0 1 A.a_check_not_negative A.d_check_not_negative ["number"] (sp_check_not_negative K) := ok_check_not_negative T
  have G_check_chain : FnOk P w K mg base CX0 1 A.a_check_chain A.d_check_chain ["chain"] (sp_check_chain K) := ok_check_chain T
  refine T.F_check_demands.ok sc_check_demands (fun vs H Q E h => ?_) (fun cdv A0 outer s H vs Q E hr h => ?_)
  · obtain ⟨b, zs, ps, c, l, rfl, hw⟩ := h
    rfl
  · obtain ⟨b, zs, ps, c, l, rfl, hw⟩ := h
    refine ⟨_, (pss_cons (ps_expr (pe_call G_check_not_negative hr (by rfl) T.g_check_not_negative T.F_check_not_negative.kp T.b_check_not_negative .nil pass0 (pa_cons (pv 0) pa_nil)))
    (pss_cons (ps_expr (pe_call G_check_not_negative hr (by rfl) T.g_check_not_negative T.F_check_not_negative.kp T.b_check_not_negative .nil pass0 (pa_cons (pv 1) pa_nil)))
    (pss_one (ps_expr (pe_call G_check_chain hr (by rfl) T.g_check_chain T.F_check_chain.kp T.b_check_chain .nil pass0 (pa_cons (pv 2) pa_nil)))))), ?_⟩
    obtain ⟨h1, h2, hb, hP, hc, hB, k⟩ := hw
    walk_at "hs"
    refine ⟨c, rfl, h1, ?_⟩
    walk_at "hs"
    refine ⟨l, rfl, h2, ?_⟩
    walk_at "hs"
    refine ⟨b, zs, ps, rfl, hb, hP, hc, hB, fun H1 K1 => ?_⟩
    walk_at "hs"
    exact k _ K1
def sp_has_book (K : PySem.W.Frag) : Sp := fun vs H Q _ => ∃ (n : Nat) (l : Int), vs = [.int n, .int l] ∧ (Q (.bl (decide (l - n = 0 ∨ (0 < l - n ∧ 0 < n)))) H)
theorem ok_has_book (T : Txt K mg A) : FnOk P w K mg base CX0 1 A.a_has_book A.d_has_book ["chapters", "many"] (sp_has_book K) := by
  refine T.F_has_book.ok sc_has_book (fun vs H Q E h => ?_) (fun cdv A0 outer s H vs Q E hr h => ?_)
  · obtain ⟨n, l, rfl, hw⟩ := h
    rfl
  · obtain ⟨n, l, rfl, hw⟩ := h
    refine ⟨_, (pss_one (ps_ret (pe_or (pe_cmpR op_eq (pv 1) (pv 0) (nomark _)) (pe_one (pe_chain op_gt op_gt (pv 1) (pv 0) pe_int))))), ?_⟩
    have k := hw
    walk_at "hs"
    refine HS.itd (fun h => ?_) (fun h => ?_)
    · rw [decide_eq_true (show l - n = 0 ∨ (0 < l - n ∧ 0 < n) by omega)] at k
      exact k
    · walk_at "hs"
      refine HS.itd (fun h2 => ?_) (fun h2 => ?_)
      · walk_at "hs"
        rw [show decide (l - n = 0 ∨ (0 < l - n ∧ 0 < n)) = decide ((n : Int) > 0) from decide_eq_decide.mpr (by omega)] at k
        exact k
      · rw [decide_eq_false (show ¬ (l - n = 0 ∨ (0 < l - n ∧ 0 < n)) by omega)] at k
        exact k
def sp_list_places (K : PySem.W.Frag) : Sp := fun vs H Q _ => ∃ (b : Addr) (zs : List V) (ps : List (Int × Int)) (c l : Int), vs = [.int c, .int l, .ref b] ∧ (SqL K H b zs ∧ HS.Prs H zs ps ∧ ChOk 0 ps ∧ ps.length ≤ 1000 ∧ (∀ p ∈ ps, p.1 < 2 ^ 150 ∧ -(2 ^ 150) < p.2 ∧ p.2 < 2 ^ 150) ∧ -(2 ^ 150) < c ∧ c < 2 ^ 150 ∧ ∀ H' p us, HS.Keep (fun _ => False) H H' → H p = none → H' p = some (.lst us) → HS.Tri H' us (plc c 1 (l - c) ps) → Q (.ref p) H')
theorem ok_list_places (T : Txt K mg A) : FnOk P w K mg base CX0 1 A.a_list_places A.d_list_places ["chapters", "lines", "chain"] (sp_list_places K) := by
  refine T.F_list_places.ok sc_list_places (fun vs H Q E h => ?_) (fun cdv A0 outer s H vs Q E hr h => ?_)
  · obtain ⟨b, zs, ps, c, l, rfl, hw⟩ := h
    rfl
  · obtain ⟨b, zs, ps, c, l, rfl, hw⟩ := h
    refine ⟨_, (pss_cons (ps_set (i := 3) sc_list_places.nd rfl (.inl rfl) (pe_lst pa_nil))
    (pss_cons (ps_set (i := 4) sc_list_places.nd rfl (.inl rfl) pe_int)
    (pss_cons (ps_set (i := 5) sc_list_places.nd rfl (.inl rfl) (pe_op op_sub (pv 1) (pv 0)))
    (pss_cons (ps_for PassesOwn.never rfl (HS.kil K (pi_list (pv 2))) (HS.kgt K (pg_tup rfl (pgs_cons (pg_name (i := 6) sc_list_places.nd rfl (.inl rfl)) (pgs_cons (pg_name (i := 7) sc_list_places.nd rfl (.inl rfl)) pgs_nil))))
      (pss_cons (ps_set (i := 8) sc_list_places.nd rfl (.inl rfl) (pe_op op_fdivW (pv 6) (pv 4)))
    (pss_cons (ps_expr (HS.kbm K (pe_bm PySem.F.plainAttrs_list PySem.F.slot_list_append PySem.F.type_list_append mt_append (pv 3) (pa_cons (pe_tup (pa_cons (pv 4) (pa_cons (pv 8) (pa_cons (pe_op op_sub (pv 5) (pe_op op_mulW (pv 8) (pe_op op_sub (pv 7) (pv 0)))) pa_nil)))) pa_nil))))
    (pss_cons (ps_set (i := 4) sc_list_places.nd rfl (.inl rfl) (pv 6))
    (pss_one (ps_set (i := 5) sc_list_places.nd rfl (.inl rfl) (pe_op op_sub (pv 7) (pv 0))))))))
    (pss_cons (ps_expr (HS.kbm K (pe_bm PySem.F.plainAttrs_list PySem.F.slot_list_append PySem.F.type_list_append mt_append (pv 3) (pa_cons (pe_tup (pa_cons (pv 4) (pa_cons (pe_op op_add (pv 5) pe_int) (pa_cons (pv 5) pa_nil)))) pa_nil))))
    (pss_one (ps_ret (pv 3)))))))), ?_⟩
    obtain ⟨hb, hP, hc, hl, hB, c0, c1, k⟩ := hw
    have hpos := chok_pos hc (Int.le_refl 0)
    walk_at "hs"
    intro P hPn
    generalize hG_P : upd _ P _ = H0
    have at_P := HS.upgs hG_P
    have Kn_P := HS.upgK hG_P hPn
    clear hG_P
    have hb0 := Kn_P.sq hb id
    walk_at "hs"
    refine ⟨⟨_, hb0⟩, for_list (xs := zs) (fun i σ H' => HS.Keep (fun _ => False) H H' ∧ ∃ (us : List V) (ts : List (Int × Int × Int)) (size rest : Int) (x6 x7 x8 : Option V), σ = [some (.int c), some (.int l), some (.ref b), some (.ref P), some (.int size), some (.int rest), x6, x7, x8] ∧ H' P = some (.lst us) ∧ HS.Tri H' us ts ∧ ts.length = i ∧ ts ++ plc c size rest (ps.drop i) = plc c 1 (l - c) ps ∧ 1 ≤ size ∧ size < 2 ^ 150) ⟨Kn_P, [], [], 1, l - c, _, _, _, rfl, at_P, trivial, rfl, rfl, by decide, by decide⟩ (fun i σ H' _ ⟨K', _⟩ => K'.sq hb id) ?_ ?_⟩
    · rintro i x σ H1 hi ⟨K1, us, ts, size, rest, x6, x7, x8, rfl, hP1, hT, htl, hpl, s1, s2⟩
      obtain ⟨q, p, rfl, hp, hq⟩ := HS.Prs.at hP hi
      have hil := (List.getElem?_eq_some_iff.mp hp).1
      have hpB := hB p (List.mem_of_getElem? hp)
      have hp0 := hpos p (List.mem_of_getElem? hp)
      have ed : ps.drop i = p :: ps.drop (i + 1) := by rw [List.drop_eq_getElem_cons hil]; congr 1; rw [List.getElem?_eq_getElem hil] at hp; exact Option.some.inj hp
      rw [ed, plc] at hpl
      have hq1 := K1 _ _ hq id
      have ul := hT.len
      have q0 : 0 ≤ p.1 / size := Int.ediv_nonneg (by omega) (by omega)
      have q1 : p.1 / size ≤ p.1 := Int.ediv_le_self _ (by omega)
      walk_at "hs"
      refine ⟨HS.divW 150 (by omega) s2 (by decide) (by decide), ?_⟩
      walk_at "hs"
      refine ⟨wide_mul (a := 151) (b := 152) (by omega) (by omega) (by decide) (by decide) (by decide), ?_⟩
      walk_at "hs"
      intro r hr1
      have hPr : P ≠ r := ne_of_none hP1 hr1
      have hP2 := HS.Keep.new (S := fun _ => False) (o := .tup [.int size, .int (p.1 / size), .int (rest - p.1 / size * (p.2 - c))]) hr1 _ _ hP1 id
      have hr2 := upd_same (H := H1) (a := r) (o := .tup [.int size, .int (p.1 / size), .int (rest - p.1 / size * (p.2 - c))])
      have hT2 := hT.same (HS.Keep.new (o := .tup [.int size, .int (p.1 / size), .int (rest - p.1 / size * (p.2 - c))]) hr1)
      have K2 := K1.trans (HS.Keep.new (o := .tup [.int size, .int (p.1 / size), .int (rest - p.1 / size * (p.2 - c))]) hr1)
      generalize upd H1 r (.tup [.int size, .int (p.1 / size), .int (rest - p.1 / size * (p.2 - c))]) = H2 at hP2 hr2 hT2 K2 ⊢
      walk_at "hs"
      refine ⟨K2.put hPn, us ++ [.ref r], ts ++ [(size, p.1 / size, rest - p.1 / size * (p.2 - c))], p.1, p.2 - c, _, _, _, rfl, upd_same, ?_, by rw [List.length_append, htl]; rfl, by rw [← hpl, List.append_assoc]; rfl, by omega, hpB.1⟩
      refine (HS.Tri.put hP2 hT2).app ⟨⟨r, rfl, ?_⟩, trivial⟩
      rw [upd_ne (Ne.symm hPr), hr2]
    · rintro σ H1 ⟨K1, us, ts, size, rest, x6, x7, x8, rfl, hP1, hT, htl, hpl, s1, s2⟩
      have ul := hT.len
      have vl := hP.len
      rw [vl, List.drop_length, plc] at hpl
      walk_at "hs"
      intro r hr1
      have hPr : P ≠ r := ne_of_none hP1 hr1
      have hP2 := HS.Keep.new (S := fun _ => False) (o := .tup [.int size, .int (rest + 1), .int rest]) hr1 _ _ hP1 id
      have hr2 := upd_same (H := H1) (a := r) (o := .tup [.int size, .int (rest + 1), .int rest])
      have hT2 := hT.same (HS.Keep.new (o := .tup [.int size, .int (rest + 1), .int rest]) hr1)
      have K2 := K1.trans (HS.Keep.new (o := .tup [.int size, .int (rest + 1), .int rest]) hr1)
      generalize upd H1 r (.tup [.int size, .int (rest + 1), .int rest]) = H2 at hP2 hr2 hT2 K2 ⊢
      walk_at "hs"
      refine k _ P (us ++ [.ref r]) (K2.put hPn) hPn upd_same ?_
      rw [← hpl]
      refine (HS.Tri.put hP2 hT2).app ⟨⟨r, rfl, ?_⟩, trivial⟩
      rw [upd_ne (Ne.symm hPr), hr2]
def sp_count_lists (K : PySem.W.Frag) : Sp := fun vs H Q _ => ∃ (n : Nat) (m t : Int), vs = [.int n, .int m, .int t] ∧ (n ≤ 50 ∧ m < 2 ^ 200 ∧ -(2 ^ 200) < m ∧ t < 2 ^ 200 ∧ Q (.int (lstN n m t)) H)
theorem ok_count_lists (T : Txt K mg A) : FnOk P w K mg base CX0 1 A.a_count_lists A.d_count_lists ["terms", "limit", "total"] (sp_count_lists K) := by
  refine T.F_count_lists.ok sc_count_lists (fun vs H Q E h => ?_) (fun cdv A0 outer s H vs Q E hr h => ?_)
  · obtain ⟨n, m, t, rfl, hw⟩ := h
    rfl
  · obtain ⟨n, m, t, rfl, hw⟩ := h
    refine ⟨_, (pss_cons (ps_if (pt_cmpR op_eq (pv 2) pe_int (nomark _))
      (pss_one (ps_ret pe_int))
      pss_nil)
    (pss_cons (ps_set (i := 2) sc_count_lists.nd rfl (.inl rfl) (pe_callB (call_min2 rfl) (by rfl) T.z_min (by decide +kernel) (pa_cons (pv 2) (pa_cons (pe_op op_sub (pe_op op_mulW (pv 0) (pe_op op_sub (pv 1) pe_int)) (pv 2)) pa_nil))))
    (pss_cons (ps_if (pt_cmpR op_lt (pv 2) pe_int (nomark _))
      (pss_one (ps_ret pe_int))
      pss_nil)
    (pss_cons (ps_set (i := 3) sc_count_lists.nd rfl (.inl rfl) (pe_callBfun HS.cr_comb (by rfl) T.y_comb (pa_cons (pe_op op_sub (pe_op op_add (pv 2) (pv 0)) pe_int) (pa_cons (pe_op op_sub (pv 0) pe_int) pa_nil))))
    (pss_cons (ps_set (i := 4) sc_count_lists.nd rfl (.inl rfl) (pe_un un_neg pe_int))
    (pss_cons (ps_for PassesOwn.never rfl (pi_range2 (by rfl) T.z_range (pa_cons pe_int (pa_cons (pe_op op_add (pe_op op_fdivW (pv 2) (pv 1)) pe_int) pa_nil))) (pg_name (i := 5) sc_count_lists.nd rfl (.inl rfl))
      (pss_cons (ps_set (i := 3) sc_count_lists.nd rfl (.inl rfl) (pe_op op_add (pv 3) (pe_op op_mulW (pe_op op_mulW (pv 4) (pe_callBfun HS.cr_comb (by rfl) T.y_comb (pa_cons (pv 0) (pa_cons (pv 5) pa_nil)))) (pe_callBfun HS.cr_comb (by rfl) T.y_comb (pa_cons (pe_op op_sub (pe_op op_add (pe_op op_sub (pv 2) (pe_op op_mulW (pv 5) (pv 1))) (pv 0)) pe_int) (pa_cons (pe_op op_sub (pv 0) pe_int) pa_nil))))))
    (pss_one (ps_set (i := 4) sc_count_lists.nd rfl (.inl rfl) (pe_un un_neg (pv 4))))))
    (pss_one (ps_ret (pv 3))))))))), ?_⟩
    obtain ⟨hn, hm1, hm0, ht, k⟩ := hw
    walk_at "hs"
    refine HS.itd (fun h0 => ?_) (fun h0 => ?_)
    · walk_at "hs"
      rw [show lstN n m t = 1 from if_pos h0] at k
      exact k
    walk_at "hs"
    refine ⟨wide_mul (a := 6) (b := 201) (by omega) (by omega) (by decide) (by decide) (by decide), ?_⟩
    walk_at "hs"
    obtain ⟨T, hT⟩ : ∃ T, min t ((n : Int) * (m - 1) - t) = T := ⟨_, rfl⟩
    rw [show (if (n : Int) * (m - 1) - t < t then (n : Int) * (m - 1) - t else t) = T by rw [← hT, Int.min_def]; split <;> split <;> omega]
    have hTt : T ≤ t := by rw [← hT]; exact Int.min_le_left _ _
    have hTn : T ≤ (n : Int) * (m - 1) - t := by rw [← hT]; exact Int.min_le_right _ _
    have hflip : T = t ∨ T = (n : Int) * (m - 1) - t := by rw [← hT, Int.min_def]; split <;> simp
    walk_at "hs"
    refine HS.itd (fun hneg => ?_) (fun hneg => ?_)
    · walk_at "hs"
      rw [show lstN n m t = 0 by unfold lstN; rw [if_neg h0, hT, if_pos hneg]] at k
      exact k
    have hn1 : 1 ≤ n := by
      rcases Nat.eq_zero_or_pos n with z | z
      · rw [z] at hTn; simp at hTn; omega
      · exact z
    obtain ⟨n', rfl⟩ : ∃ n', n = n' + 1 := ⟨n - 1, by omega⟩
    have hm2 : 2 ≤ m := by
      rcases Int.lt_or_le m 2 with g | g
      · exfalso
        have : ((n' + 1 : Nat) : Int) * (m - 1) ≤ 0 := by
          have := Int.mul_le_mul_of_nonneg_left (show m - 1 ≤ 0 by omega) (show 0 ≤ ((n' + 1 : Nat) : Int) by omega)
          rw [Int.mul_zero] at this
          exact this
        omega
      · exact g
    have hL : lstN (n' + 1) m t = bnd m.toNat (n' + 1) (T + (n' + 1 : Nat)) := by
      rw [lstN_bnd (by omega)]
      rcases hflip with g | g
      · rw [g]
      · rw [bnd_flip, g, show ((m.toNat : Nat) : Int) = m by omega]
        congr 1
        rw [Int.mul_add, Int.mul_sub]
        omega
    have hTm : T / m ≤ 50 := by
      have : T < 51 * m := by
        have : ((n' + 1 : Nat) : Int) * (m - 1) ≤ 50 * (m - 1) := Int.mul_le_mul_of_nonneg_right (by omega) (by omega)
        omega
      have := (Int.ediv_lt_iff_lt_mul (show 0 < m by omega)).mpr this
      omega
    have hT0 : 0 ≤ T / m := Int.ediv_nonneg (by omega) (by omega)
    have e1 : (((n' + 1 : Nat) : Int) - 1) = ((n' : Nat) : Int) := by omega
    have pw : ∀ j : Nat, j ≤ 50 → (2 : Nat) ^ (250 * j) < 2 ^ 12501 := fun j hj => Nat.pow_lt_pow_right (by decide) (by omega)
    have cb : ∀ a b : Nat, b ≤ 50 → a + 1 ≤ 2 ^ 250 → HS.binC a b < 2 ^ 12501 := fun a b hb ha => by
      have p1 := HS.binC_pow a b
      have p2 : (a + 1) ^ b ≤ (2 ^ 250) ^ b := Nat.pow_le_pow_left ha b
      rw [← Nat.pow_mul] at p2
      have := pw b hb
      omega
    walk_at "hs"
    refine ⟨(T + n').toNat, n', by rw [show (((T + n').toNat : Nat) : Int) = T + ((n' + 1 : Nat) : Int) - 1 by omega, e1], by omega, by omega, by omega, ?_⟩
    walk_at "hs"
    refine ⟨HS.divW 200 (by omega) (by omega) (by decide) (by decide), ?_⟩
    walk_at "hs"
    refine ⟨by omega, ?_⟩
    rw [show (T / m + 1 - 1).toNat = (T / m).toNat by omega]
    refine for_range (lo := 1) (n := (T / m).toNat) (fun i σ H' => H' = H ∧ ∃ x5 : Option V, σ = [some (.int ((n' + 1 : Nat) : Int)), some (.int m), some (.int T), some (.int ((List.range (i + 1)).map fun (j : Nat) => sgn j * (bin (n' + 1) j : Nat) * (bin (T - (j : Int) * m + n').toNat n' : Nat)).sum), some (.int (sgn (i + 1))), x5]) ⟨rfl, _, by
      rw [show (List.range (0 + 1)).map (fun (j : Nat) => sgn j * ((bin (n' + 1) j : Nat) : Int) * ((bin (T - (j : Int) * m + n').toNat n' : Nat) : Int)) = [sgn 0 * ((bin (n' + 1) 0 : Nat) : Int) * ((bin (T - ((0 : Nat) : Int) * m + n').toNat n' : Nat) : Int)] from rfl]
      rw [List.sum_singleton, bin_0, show T - ((0 : Nat) : Int) * m + n' = T + n' by omega, show sgn 0 = 1 from rfl, show sgn (0 + 1) = -1 from rfl, Int.one_mul]
      simp
      rfl⟩ ?_ ?_
    · rintro i σ H1 hi ⟨rfl, x5, rfl⟩
      have hjm : (1 + (i : Int)) * m ≤ T := by
        have := (Int.le_ediv_iff_mul_le (show 0 < m by omega)).mp (show (1 + (i : Int)) ≤ T / m by omega)
        exact this
      have hi50 : 1 + i ≤ n' + 1 := by
        have : T < ((n' + 1 : Nat) : Int) * m := by
          have e : ((n' + 1 : Nat) : Int) * (m - 1) = ((n' + 1 : Nat) : Int) * m - (n' + 1 : Nat) := by rw [Int.mul_sub, Int.mul_one]
          omega
        have := (Int.ediv_lt_iff_lt_mul (show 0 < m by omega)).mpr this
        omega
      have j0 : 0 ≤ (1 + (i : Int)) * m := Int.mul_nonneg (by omega) (by omega)
      have sg1 : (sgn (i + 1)).natAbs < 2 ^ 2 := by unfold sgn; split <;> decide
      walk_at "hs"
      refine ⟨n' + 1, 1 + i, by push_cast; rfl, hi50, by omega, by omega, ?_⟩
      walk_at "hs"
      have b1 := cb (n' + 1) (1 + i) (by omega) (by omega)
      refine ⟨wide_mul (a := 2) (b := 12501) sg1 (by rw [Int.natAbs_natCast]; exact b1) (by decide) (by decide) (by decide), ?_⟩
      walk_at "hs"
      refine ⟨HS.mulW 62 200 (by omega) (by omega) (by omega) hm1 (by decide) (by decide) (by decide), ?_⟩
      walk_at "hs"
      refine ⟨(T - (1 + (i : Int)) * m + n').toNat, n', by rw [show (((T - (1 + (i : Int)) * m + n').toNat : Nat) : Int) = T - (1 + (i : Int)) * m + ((n' + 1 : Nat) : Int) - 1 by omega, e1], by omega, by omega, by omega, ?_⟩
      walk_at "hs"
      have b2 := cb (T - (1 + (i : Int)) * m + n').toNat n' (by omega) (by omega)
      have mm : (sgn (i + 1) * ((HS.binC (n' + 1) (1 + i) : Nat) : Int)).natAbs < 2 ^ 12504 := by
        rw [Int.natAbs_mul, Int.natAbs_natCast]
        have : (sgn (i + 1)).natAbs ≤ 1 := by unfold sgn; split <;> decide
        have := Nat.mul_le_mul this (Nat.le_refl (HS.binC (n' + 1) (1 + i)))
        have q : (2 : Nat) ^ 12501 < 2 ^ 12504 := Nat.pow_lt_pow_right (by decide) (by decide)
        omega
      refine ⟨wide_mul (a := 12504) (b := 12501) mm (by rw [Int.natAbs_natCast]; exact b2) (by decide) (by decide) (by decide), ?_⟩
      walk_at "hs"
      refine ⟨rfl, some (.int (1 + (i : Nat))), ?_⟩
      rw [List.range_succ (n := i + 1), List.map_append, List.sum_append, List.map_singleton, List.sum_singleton, sgn_succ (i + 1), show ((i + 1 : Nat) : Int) = 1 + (i : Int) by omega, show i + 1 = 1 + i by omega]
      rfl
    · rintro σ H1 ⟨rfl, x5, rfl⟩
      walk_at "hs"
      rw [bnd_prog hm2 (by omega), ← hL]
      exact k
def sp_multiply_ways (K : PySem.W.Frag) : Sp := fun vs H Q _ => ∃ (b : Addr) (zs : List V) (ts : List (Int × Int × Int)) (n : Nat), vs = [.int n, .ref b] ∧ (SqL K H b zs ∧ HS.Tri H zs ts ∧ n ≤ 50 ∧ ts.length ≤ 30 ∧ (∀ t ∈ ts, t.2.1 < 2 ^ 200 ∧ -(2 ^ 200) < t.2.1 ∧ t.2.2 < 2 ^ 200) ∧ Q (.int (ways n ts)) H)
theorem ok_multiply_ways (T : Txt K mg A) : FnOk P w K mg base CX0 2 A.a_multiply_ways A.d_multiply_ways ["chapters", "places"] (sp_multiply_ways K) := by
  have G_count_lists : FnOk P w K mg base CX0 1 A.a_count_lists A.d_count_lists ["terms", "limit", "total"] (sp_count_lists K) := ok_count_lists T
  refine T.F_multiply_ways.ok sc_multiply_ways (fun vs H Q E h => ?_) (fun cdv A0 outer s H vs Q E hr h => ?_)
  · obtain ⟨b, zs, ts, n, rfl, hw⟩ := h
    rfl
  · obtain ⟨b, zs, ts, n, rfl, hw⟩ := h
    refine ⟨_, (pss_cons (ps_set (i := 2) sc_multiply_ways.nd rfl (.inl rfl) pe_int)
    (pss_cons (ps_for PassesOwn.never rfl (HS.kil K (pi_list (pv 1))) (HS.kgt K (pg_tup rfl (pgs_cons (pg_name (i := 3) sc_multiply_ways.nd rfl (.inl rfl)) (pgs_cons (pg_name (i := 4) sc_multiply_ways.nd rfl (.inl rfl)) (pgs_cons (pg_name (i := 5) sc_multiply_ways.nd rfl (.inl rfl)) pgs_nil)))))
      (pss_one (ps_set (i := 2) sc_multiply_ways.nd rfl (.inl rfl) (pe_op op_mulW (pv 2) (pe_call G_count_lists hr (by rfl) T.g_count_lists T.F_count_lists.kp T.b_count_lists .nil pass0 (pa_cons (pv 0) (pa_cons (pv 4) (pa_cons (pv 5) pa_nil))))))))
    (pss_one (ps_ret (pv 2))))), ?_⟩
    obtain ⟨hb, hT, hn, hl, hB, k⟩ := hw
    walk_at "hs"
    refine ⟨⟨_, hb⟩, for_list (xs := zs) (fun i σ H' => H' = H ∧ ∃ (x3 x4 x5 : Option V), σ = [some (.int n), some (.ref b), some (.int (ways n (ts.take i))), x3, x4, x5]) ⟨rfl, _, _, _, rfl⟩ (fun i σ H' _ ⟨e, _⟩ => e ▸ hb) ?_ ?_⟩
    · rintro i x σ H1 hi ⟨rfl, x3, x4, x5, rfl⟩
      obtain ⟨q, p, rfl, hp, hq⟩ := hT.at hi
      have hpB := hB p (List.mem_of_getElem? hp)
      have il := (List.getElem?_eq_some_iff.mp hp).1
      have w1 := ways_lt hn (ts := ts.take i) (fun t h => (hB t (List.mem_of_mem_take h)).1)
      rw [List.length_take, Nat.min_eq_left (by omega)] at w1
      have w2 := lstN_lt (t := p.2.2) hn hpB.1
      walk_at "hs"
      refine ⟨n, p.2.1, p.2.2, rfl, hn, hpB.1, hpB.2.1, hpB.2.2, ?_⟩
      walk_at "hs"
      refine ⟨wide_mul (a := 10001 * i + 1) (b := 10001) w1 w2 (by omega) (by decide) (by omega), ?_⟩
      walk_at "hs"
      refine ⟨rfl, some (.int p.1), some (.int p.2.1), some (.int p.2.2), ?_⟩
      rw [ways_take hp]
      rfl
    · rintro σ H1 ⟨rfl, x3, x4, x5, rfl⟩
      rw [hT.len, List.take_length]
      walk_at "hs"
      exact k
def sp_count_fitting (K : PySem.W.Frag) : Sp := fun vs H Q _ => ∃ (b : Addr) (zs : List V) (ps : List (Int × Int)) (n : Nat) (l : Int), vs = [.int n, .int l, .ref b] ∧ (0 ≤ l ∧ l < 2 ^ 150 ∧ n ≤ 50 ∧ SqL K H b zs ∧ HS.Prs H zs ps ∧ ChOk 0 ps ∧ ps.length ≤ 25 ∧ (∀ p ∈ ps, p.1 < 2 ^ 150 ∧ -(2 ^ 150) < p.2 ∧ p.2 < 2 ^ 150) ∧ (∀ t ∈ plc n 1 (l - n) ps, t.2.1 < 2 ^ 200 ∧ -(2 ^ 200) < t.2.1 ∧ t.2.2 < 2 ^ 200) ∧ ∀ H', HS.Keep (fun _ => False) H H' → Q (.int (ways n (plc n 1 (l - n) ps))) H')
theorem ok_count_fitting (T : Txt K mg A) : FnOk P w K mg base CX0 3 A.a_count_fitting A.d_count_fitting ["chapters", "lines", "chain"] (sp_count_fitting K) := by
  have G_check_demands : FnOk P w K mg base CX0 2 A.a_check_demands A.d_check_demands ["chapters", "lines", "chain"] (sp_check_demands K) := ok_check_demands T
  have G_multiply_ways : FnOk P w K mg base CX0 2 A.a_multiply_ways A.d_multiply_ways ["chapters", "places"] (sp_multiply_ways K) := ok_multiply_ways T
  have G_list_places : FnOk P w K mg base CX0 1 A.a_list_places A.d_list_places ["chapters", "lines", "chain"] (sp_list_places K) := ok_list_places T
  refine T.F_count_fitting.ok sc_count_fitting (fun vs H Q E h => ?_) (fun cdv A0 outer s H vs Q E hr h => ?_)
  · obtain ⟨b, zs, ps, n, l, rfl, hw⟩ := h
    rfl
  · obtain ⟨b, zs, ps, n, l, rfl, hw⟩ := h
    refine ⟨_, (pss_cons (ps_expr (pe_call G_check_demands hr (by rfl) T.g_check_demands T.F_check_demands.kp T.b_check_demands .nil pass0 (pa_cons (pv 0) (pa_cons (pv 1) (pa_cons (pv 2) pa_nil)))))
    (pss_one (ps_ret (pe_call G_multiply_ways hr (by rfl) T.g_multiply_ways T.F_multiply_ways.kp T.b_multiply_ways .nil pass0 (pa_cons (pv 0) (pa_cons (pe_call G_list_places (hr.mono (by decide)) (by rfl) T.g_list_places T.F_list_places.kp T.b_list_places .nil pass0 (pa_cons (pv 0) (pa_cons (pv 1) (pa_cons (pv 2) pa_nil)))) pa_nil)))))), ?_⟩
    obtain ⟨l0, l1, hn, hb, hP, hc, hl, hB, hB2, k⟩ := hw
    walk_at "hs"
    refine ⟨b, zs, ps, n, l, rfl, by omega, l0, hb, hP, hc, fun p h => (hB p h).1, fun H1 K1 => ?_⟩
    have hb1 := K1.sq hb id
    have hP1 := HS.Prs.same hP K1
    walk_at "hs"
    refine ⟨b, zs, ps, n, l, rfl, hb1, hP1, hc, by omega, hB, by omega, by omega, fun H2 p us K2 hp0 hp hT => ?_⟩
    walk_at "hs"
    refine ⟨p, us, _, n, rfl, HS.sq hp, hT, hn, by rw [plc_len]; omega, hB2, ?_⟩
    exact k _ (K1.trans K2)
def sp_contradiction (K : PySem.W.Frag) : Sp := fun vs H Q _ => ∃ (b : Addr) (zs : List V) (ps : List (Int × Int)) (n : Nat) (l : Int), vs = [.int n, .int l, .ref b] ∧ (0 ≤ l ∧ l < 2 ^ 150 ∧ n ≤ 50 ∧ SqL K H b zs ∧ HS.Prs H zs ps ∧ ChOk 0 ps ∧ ps.length ≤ 25 ∧ (∀ p ∈ ps, p.1 < 2 ^ 150 ∧ -(2 ^ 150) < p.2 ∧ p.2 < 2 ^ 150) ∧ (dueX n l ps = none → ∀ H', HS.Keep (fun _ => False) H H' → Q .non H') ∧
  (∀ i j, dueX n l ps = some (i, j) → ∀ H' p, HS.Keep (fun _ => False) H H' → H p = none → H' p = some (.tup [.int i, .int j]) → Q (.ref p) H'))
theorem ok_contradiction (T : Txt K mg A) : FnOk P w K mg base CX0 3 A.a_contradiction A.d_contradiction ["chapters", "lines", "chain"] (sp_contradiction K) := by
  have G_check_demands : FnOk P w K mg base CX0 2 A.a_check_demands A.d_check_demands ["chapters", "lines", "chain"] (sp_check_demands K) := ok_check_demands T
  have G_has_book : FnOk P w K mg base CX0 1 A.a_has_book A.d_has_book ["chapters", "many"] (sp_has_book K) := ok_has_book T
  have G_list_places : FnOk P w K mg base CX0 1 A.a_list_places A.d_list_places ["chapters", "lines", "chain"] (sp_list_places K) := ok_list_places T
  refine T.F_contradiction.ok sc_contradiction (fun vs H Q E h => ?_) (fun cdv A0 outer s H vs Q E hr h => ?_)
  · obtain ⟨b, zs, ps, n, l, rfl, hw⟩ := h
    rfl
  · obtain ⟨b, zs, ps, n, l, rfl, hw⟩ := h
    refine ⟨_, (pss_cons (ps_expr (pe_call G_check_demands hr (by rfl) T.g_check_demands T.F_check_demands.kp T.b_check_demands .nil pass0 (pa_cons (pv 0) (pa_cons (pv 1) (pa_cons (pv 2) pa_nil)))))
    (pss_cons (ps_if (pt_not (pt_val (pe_call G_has_book (hr.mono (by decide)) (by rfl) T.g_has_book T.F_has_book.kp T.b_has_book .nil pass0 (pa_cons (pv 0) (pa_cons (pv 1) pa_nil)))))
      (pss_one (ps_ret (pe_tup (pa_cons (pe_un un_neg pe_int) (pa_cons (pe_un un_neg pe_int) pa_nil)))))
      pss_nil)
    (pss_cons (ps_set (i := 3) sc_contradiction.nd rfl (.inl rfl) (pe_call G_list_places (hr.mono (by decide)) (by rfl) T.g_list_places T.F_list_places.kp T.b_list_places .nil pass0 (pa_cons (pv 0) (pa_cons (pv 1) (pa_cons (pv 2) pa_nil)))))
    (pss_cons (ps_for PassesOwn.never rfl (HS.kien K (pi_enum (by rfl) T.z_enumerate (pa_cons (pv 2) pa_nil))) (HS.kgt K (pg_tup rfl (pgs_cons (pg_name (i := 4) sc_contradiction.nd rfl (.inl rfl)) (pgs_cons (HS.kgt K (pg_tup rfl (pgs_cons (pg_name (i := 5) sc_contradiction.nd rfl (.inl rfl)) (pgs_cons (pg_name (i := 6) sc_contradiction.nd rfl (.inl rfl)) pgs_nil)))) pgs_nil))))
      (pss_cons (ps_asg (pe_ix (HS.ixl K) (pv 3) (pv 4) (fun _ _ => rfl)) (HS.kgt K (pg_tup rfl (pgs_cons (pg_name (i := 5) sc_contradiction.nd rfl (.inl rfl)) (pgs_cons (pg_name (i := 7) sc_contradiction.nd rfl (.inl rfl)) (pgs_cons (pg_name (i := 8) sc_contradiction.nd rfl (.inl rfl)) pgs_nil))))))
    (pss_one (ps_if (PW.pt (pw_or (pt_not (pt_chain op_le op_le pe_int (pv 8) (pe_op op_mulW (pv 0) (pe_op op_sub (pv 7) pe_int)))) (pw_or1 (pt_not (pt_val (pe_call G_has_book (hr.mono (by decide)) (by rfl) T.g_has_book T.F_has_book.kp T.b_has_book .nil pass0 (pa_cons (pv 0) (pa_cons (pv 6) pa_nil))))))))
      (pss_one (ps_ret (pe_tup (pa_cons (pe_op op_sub (pv 4) pe_int) (pa_cons (pv 4) pa_nil)))))
      pss_nil))))
    (pss_one (ps_ret pe_non)))))), ?_⟩
    obtain ⟨l0, l1, hn, hb, hP, hc, hl, hB, kN, kS⟩ := hw
    walk_at "hs"
    refine ⟨b, zs, ps, n, l, rfl, by omega, l0, hb, hP, hc, fun p h => (hB p h).1, fun H1 K1 => ?_⟩
    have hb1 := K1.sq hb id
    have hP1 := HS.Prs.same hP K1
    walk_at "hs"
    refine ⟨n, l, rfl, ?_⟩
    walk_at "hs"
    refine HS.itn (fun h => ?_) (fun h => ?_)
    · walk_at "hs"
      intro r hr1
      exact kS (-1) (-1) (if_neg h) _ r (K1.trans (.new hr1)) (K1.free hr1 id) upd_same
    have eX : dueX n l ps = dueC n 1 (l - n) ps 0 := if_pos h
    rw [eX] at kN kS
    walk_at "hs"
    refine ⟨b, zs, ps, n, l, rfl, hb1, hP1, hc, by omega, hB, by omega, by omega, fun H2 P us K2 hP0 hPl hT => ?_⟩
    have hb2 := K2.sq hb1 id
    have hP2 := HS.Prs.same hP1 K2
    walk_at "hs"
    refine ⟨b, zs, rfl, hb2, for_it walk_enum (fun i σ H' => HS.Keep (fun _ => False) H2 H' ∧ ∃ (size rest : Int) (x4 x5 x6 x7 x8 : Option V), σ = [some (.int n), some (.int l), some (.ref b), some (.ref P), x4, x5, x6, x7, x8] ∧ (plc n 1 (l - n) ps).drop i = plc n size rest (ps.drop i) ∧ dueC n size rest (ps.drop i) i = dueC n 1 (l - n) ps 0 ∧ 1 ≤ size ∧ size < 2 ^ 150 ∧ (n = 0 → rest = 0) ∧ (size = 1 ∨ ChOk size (ps.drop i))) ⟨.refl, 1, l - n, _, _, _, _, _, rfl, rfl, rfl, by decide, by decide, by omega, .inl rfl⟩ (fun i σ H' _ ⟨K', _⟩ => K'.sq hb2 id) ?_ ?_⟩
    · rintro i x σ H3 H4 hi ⟨K3, size, rest, x4, x5, x6, x7, x8, rfl, hpl, hdu, s1, s2, hn0, hch⟩ ⟨T1, u, v, rfl, hT1, rfl, e1, e2⟩
      cases e1
      obtain ⟨q, p, rfl, hp, hq⟩ := HS.Prs.at hP2 e2
      have hil := (List.getElem?_eq_some_iff.mp hp).1
      have hpB := hB p (List.mem_of_getElem? hp)
      have hp0 := chok_pos hc (Int.le_refl 0) p (List.mem_of_getElem? hp)
      have ed : ps.drop i = p :: ps.drop (i + 1) := by rw [List.drop_eq_getElem_cons hil]; congr 1; rw [List.getElem?_eq_getElem hil] at hp; exact Option.some.inj hp
      rw [ed, plc] at hpl
      rw [ed, dueC] at hdu
      have KT : HS.Keep (fun _ => False) H3 (upd H3 T1 (.tup [.int (i : Nat), .ref q])) := .new hT1
      have K4 := K3.trans KT
      have hq2 := K4 _ _ hq id
      have hT2 := upd_same (H := H3) (a := T1) (o := .tup [.int (i : Nat), .ref q])
      generalize upd H3 T1 (.tup [.int (i : Nat), .ref q]) = H4 at KT hq2 hT2 K4 ⊢
      have hpi : (plc n 1 (l - n) ps)[i]? = some (size, p.1 / size, rest - p.1 / size * (p.2 - n)) := by
        have := congrArg (fun z => z[0]?) hpl
        have e : ((plc n 1 (l - n) ps).drop i)[0]? = (plc n 1 (l - n) ps)[i]? := by rw [List.getElem?_drop]; rfl
        rw [← e, hpl]; rfl
      have hui : ∃ t, us[i]? = some (.ref t) ∧ H2 t = some (.tup [.int size, .int (p.1 / size), .int (rest - p.1 / size * (p.2 - n))]) := by
        have ul := hT.len
        have lt : i < us.length := by rw [ul]; exact (List.getElem?_eq_some_iff.mp hpi).1
        obtain ⟨t, z, e1, e2', e3⟩ := hT.at (i := i) (List.getElem?_eq_getElem lt)
        rw [hpi] at e2'
        have ez := Option.some.inj e2'
        subst ez
        exact ⟨t, by rw [List.getElem?_eq_getElem lt, e1], e3⟩
      obtain ⟨t, hut, ht⟩ := hui
      have ht2 := K4 _ _ ht id
      have hPl2 := K4 _ _ hPl id
      have q0 : 0 ≤ p.1 / size := Int.ediv_nonneg (by omega) (by omega)
      have q1 : p.1 / size ≤ p.1 := Int.ediv_le_self _ (by omega)
      walk_at "hs"
      refine ⟨P, us, (i : Nat), .ref t, rfl, rfl, HS.sq hPl2, at_of (j := i) rfl hut, ?_⟩
      have qq1 : 1 ≤ p.1 / size := by
        have : size ≤ p.1 := by
          rcases hch with h | h
          · omega
          · rw [ed] at h; have := h.1; omega
        exact (Int.le_ediv_iff_mul_le (by omega)).mpr (by omega)
      have cdr := chok_drop hc hp
      generalize hqq : p.1 / size = q' at hpl hdu ht2 q0 q1 qq1 ⊢
      generalize htt : rest - q' * (p.2 - n) = tt at hpl hdu ht2 ⊢
      have bad : (p.2 - n < 0 ∨ ¬ (0 ≤ tt ∧ tt ≤ (n : Int) * (q' - 1))) → ∀ r H', HS.Keep (fun _ => False) H4 H' → H4 r = none → H' r = some (.tup [.int ((i : Int) - 1), .int (i : Nat)]) → Q (.ref r) H' := fun hbad r H' K' hr0 hr1 => by
        rw [if_pos hbad] at hdu
        exact kS _ _ hdu.symm _ r ((K1.trans K2).trans (K4.trans K')) (((K1.trans K2).trans K4).free hr0 id) hr1
      walk_at "hs"
      refine HS.itd (fun h1 => ?_) (fun h1 => ?_)
      · walk_at "hs"
        refine ⟨wide_mul (a := 6) (b := 151) (by omega) (by omega) (by decide) (by decide) (by decide), ?_⟩
        walk_at "hs"
        refine HS.itn (fun h2 => ?_) (fun h2 => ?_)
        · walk_at "hs"
          intro r hr1
          exact bad (.inr fun z => h2 z.2) r _ (.new hr1) hr1 upd_same
        · walk_at "hs"
          refine ⟨n, p.2, rfl, ?_⟩
          walk_at "hs"
          have nb := no_book (n := n) (more := p.2 - n) qq1 hn0 (by omega)
          refine HS.itn (fun h3 => ?_) (fun h3 => ?_)
          · walk_at "hs"
            intro r hr1
            exact bad (.inl (nb.mp h3)) r _ (.new hr1) hr1 upd_same
          · have more0 : ¬ (p.2 - n < 0) := fun z => nb.mpr z h3
            rw [if_neg (by omega)] at hdu
            have hpl' : (plc n 1 (l - n) ps).drop (i + 1) = plc n p.1 (p.2 - n) (ps.drop (i + 1)) := by
              have := congrArg (fun z => z.drop 1) hpl
              have e : ((plc n 1 (l - n) ps).drop i).drop 1 = (plc n 1 (l - n) ps).drop (i + 1) := by rw [List.drop_drop]
              rw [← e, hpl]; rfl
            walk_at "hs"
            exact ⟨K4, p.1, p.2 - n, _, _, _, _, _, rfl, hpl', by push_cast; exact hdu, by omega, hpB.1, fun z => by rcases h3 with h | h <;> omega, .inr cdr⟩
      · walk_at "hs"
        intro r hr1
        exact bad (.inr fun z => h1 z.1) r _ (.new hr1) hr1 upd_same
    · rintro σ H3 ⟨K3, size, rest, x4, x5, x6, x7, x8, rfl, hpl, hdu, _⟩
      rw [hP.len, List.drop_length, dueC] at hdu
      walk_at "hs"
      exact kN hdu.symm _ ((K1.trans K2).trans K3)
def sp__law_binomial (K : PySem.W.Frag) : Sp := fun vs H Q _ => ∃ (x k : Nat), vs = [.int ((x : Int) + k), .int k] ∧ (k ≤ 50 ∧ x < 2 ^ 200 ∧ Q (.int (HS.binC (x + k) k : Nat)) H)
theorem ok__law_binomial (T : Txt K mg A) : FnOk P w K mg base CX0 1 A.a__law_binomial A.d__law_binomial ["many", "few"] (sp__law_binomial K) := by
  refine T.F__law_binomial.ok sc__law_binomial (fun vs H Q E h => ?_) (fun cdv A0 outer s H vs Q E hr h => ?_)
  · obtain ⟨x, k, rfl, hw⟩ := h
    rfl
  · obtain ⟨x, k, rfl, hw⟩ := h
    refine ⟨_, (pss_cons (ps_set (i := 2) sc__law_binomial.nd rfl (.inl rfl) pe_int)
    (pss_cons (ps_for PassesOwn.never rfl (pi_range2 (by rfl) T.z_range (pa_cons pe_int (pa_cons (pe_op op_add (pv 1) pe_int) pa_nil))) (pg_name (i := 3) sc__law_binomial.nd rfl (.inl rfl))
      (pss_one (ps_set (i := 2) sc__law_binomial.nd rfl (.inl rfl) (pe_op op_fdivW (pe_op op_mulW (pv 2) (pe_op op_add (pe_op op_sub (pv 0) (pv 1)) (pv 3))) (pv 3)))))
    (pss_one (ps_ret (pv 2))))), ?_⟩
    obtain ⟨hk, hx, kk⟩ := hw
    walk_at "hs"
    refine ⟨by omega, ?_⟩
    rw [show ((k : Int) + 1 - 1).toNat = k by omega]
    refine for_range (lo := 1) (n := k) (fun i σ H' => H' = H ∧ ∃ x3 : Option V, σ = [some (.int ((x : Int) + k)), some (.int k), some (.int (HS.binC (x + i) i : Nat)), x3]) ⟨rfl, _, by rw [HS.binC_0]; rfl⟩ ?_ ?_
    · rintro i σ H1 hi ⟨rfl, x3, rfl⟩
      have p1 := HS.binC_pow (x + i) i
      have p2 : (x + i + 1) ^ i ≤ (2 ^ 250) ^ i := Nat.pow_le_pow_left (by omega) i
      rw [← Nat.pow_mul] at p2
      have p3 : (2 : Nat) ^ (250 * i) < 2 ^ 12501 := Nat.pow_lt_pow_right (by decide) (by omega)
      have up := binC_up (x + i) i (by omega)
      walk_at "hs"
      refine ⟨wide_mul (a := 12501) (b := 250) (by rw [Int.natAbs_natCast]; omega) (by omega) (by decide) (by decide) (by decide), ?_⟩
      walk_at "hs"
      refine ⟨HS.divW 62 (by omega) (by omega) (by decide) (by decide), ?_⟩
      walk_at "hs"
      refine ⟨rfl, some (.int (1 + (i : Nat))), ?_⟩
      have e : ((HS.binC (x + i) i : Nat) : Int) * ((x : Int) + k - k + (1 + (i : Nat))) / (1 + (i : Nat)) = ((HS.binC (x + (i + 1)) (i + 1) : Nat) : Int) := by
        have u : ((i + 1 : Nat) : Int) * ((HS.binC (x + i + 1) (i + 1) : Nat) : Int) = ((x + i + 1 : Nat) : Int) * ((HS.binC (x + i) i : Nat) : Int) := by exact_mod_cast up
        rw [show (x : Int) + k - k + (1 + (i : Nat)) = ((x + i + 1 : Nat) : Int) by push_cast; omega, Int.mul_comm, ← u, show (1 : Int) + (i : Nat) = ((i + 1 : Nat) : Int) by push_cast; omega, Int.mul_ediv_cancel_left _ (by omega)]
        rfl
      rw [← e]
      rfl
    · rintro σ H1 ⟨rfl, x3, rfl⟩
      walk_at "hs"
      exact kk
def sp__law_added_right (K : PySem.W.Frag) : Sp := fun vs H Q _ => ∃ (b wb : Addr) (zs : List V) (ps : List (Int × Int)) (n : Nat) (l W m bf : Int), vs = [.int n, .int l, .ref b, .ref wb, .int bf] ∧ (1 ≤ n ∧ n ≤ 40 ∧ (n : Int) ≤ l ∧ l < 2 ^ 97 ∧ H b = some (.lst zs) ∧ HS.Prs H zs ps ∧ ChOk 0 ps ∧ ps.length ≤ 10 ∧ (∀ p ∈ ps, 1 ≤ p.1 ∧ p.1 < 2 ^ 100 ∧ -(2 ^ 98) < p.2 ∧ p.2 < 2 ^ 98) ∧ H wb = some (.lst [.int W, .int m]) ∧ 1 ≤ W ∧ W < 2 ^ 100 ∧ (∀ x, ((0 : Int) :: ps.map (·.1)).getLast? = some x → x < W ∧ (0 < x → W % x = 0)) ∧ 1 ≤ m ∧ m < 2 ^ 100 ∧ W / (endS n 1 (l - n) ps).1 = m ∧ (endS n 1 (l - n) ps).2 = bf - n ∧ 0 ≤ bf - n ∧ bf < 2 ^ 97 ∧ (bf - n) / m ≤ 40 ∧ ∀ H', HS.Keep (fun _ => False) H H' → Q (.bl true) H')
theorem ok__law_added_right (T : Txt K mg A) : FnOk P w K mg base CX0 4 A.a__law_added_right A.d__law_added_right ["many", "total", "rows", "wide", "before"] (sp__law_added_right K) := by
  have G_count_fitting : FnOk P w K mg base CX0 3 A.a_count_fitting A.d_count_fitting ["chapters", "lines", "chain"] (sp_count_fitting K) := ok_count_fitting T
  have G_contradiction : FnOk P w K mg base CX0 3 A.a_contradiction A.d_contradiction ["chapters", "lines", "chain"] (sp_contradiction K) := ok_contradiction T
  refine T.F__law_added_right.ok sc__law_added_right (fun vs H Q E h => ?_) (fun cdv A0 outer s H vs Q E hr h => ?_)
  · obtain ⟨b, wb, zs, ps, n, l, W, m, bf, rfl, hw⟩ := h
    rfl
  · obtain ⟨b, wb, zs, ps, n, l, W, m, bf, rfl, hw⟩ := h
    refine ⟨_, (pss_cons (ps_set (i := 5) sc__law_added_right.nd rfl (.inl rfl) (pe_op op_fdivW (pe_op op_sub (pv 4) (pv 0)) (pe_ix (HS.ixl K) (pv 3) pe_int (fun _ _ => rfl))))
    (pss_cons (ps_setLc (i := 6) (own := [("more", 9)]) (g := gName 9) (tt := tYes) rfl sc__law_added_right.nd rfl rfl (sw_true rfl rfl rfl (by decide +kernel)) (pi_range1 (by rfl) T.z_range (pa_cons (pe_op op_add (pv 5) pe_int) pa_nil)) (blkOk_by (own := [("more", 9)]) (N := N__law_added_right) (sc := defScope s__law_added_right) (by decide +kernel)) (fun _ _ _ _ _ => pg_name (i := 9) sc__law_added_right.nd rfl (by first | exact .inl rfl | exact .inr rfl)) (fun _ _ _ _ _ => pts_nil) (fun _ _ _ _ _ => (pe_call G_count_fitting hr (by rfl) T.g_count_fitting T.F_count_fitting.kp T.b_count_fitting .nil pass0 (pa_cons (pv 0) (pa_cons (pv 1) (pa_cons (pe_op op_cat (pv 2) (pe_lst (pa_cons (pe_tup (pa_cons (pe_ix (HS.ixl K) (pv 3) pe_int (fun _ _ => rfl)) (pa_cons (pe_op op_add (pv 0) (pv 9)) pa_nil))) pa_nil))) pa_nil))))))
    (pss_cons (ps_if (PW.pt (pw_or (pt_cmpR op_ne (pe_callB (HS.ksum K rfl) (by rfl) T.z_sum (by decide +kernel) (pa_cons (pv 6) pa_nil)) (pe_call G_count_fitting hr (by rfl) T.g_count_fitting T.F_count_fitting.kp T.b_count_fitting .nil pass0 (pa_cons (pv 0) (pa_cons (pv 1) (pa_cons (pv 2) pa_nil)))) (nomark _)) (pw_or1 (pt_cmpR op_lt (pe_callB (HS.kmin K rfl) (by rfl) T.z_min (by decide +kernel) (pa_cons (pv 6) pa_nil)) pe_int (nomark _)))))
      (pss_one (ps_ret pe_bl))
      pss_nil)
    (pss_cons (ps_for PassesOwn.never rfl (HS.kil K (pi_list (pe_lst (pa_cons (pe_op op_sub (pv 0) pe_int) (pa_cons (pe_op op_add (pe_op op_add (pv 0) (pv 5)) pe_int) (pa_cons (pe_op op_sub pe_int (pv 0)) (pa_cons (pe_op op_add (pe_op op_add (pv 0) (pv 5)) (HS.pe_fold (10000000000000000000000000000) (pe_op op_pow pe_int pe_int) (by intro σ H Q q; walk_at "fold"))) pa_nil))))))) (pg_name (i := 7) sc__law_added_right.nd rfl (.inl rfl))
      (pss_one (ps_if (PW.pt (pw_and (pt_cmpR op_ne (pv 7) (pv 0) (nomark _)) (pw_and (pt_cmpR op_ne (pe_call G_count_fitting hr (by rfl) T.g_count_fitting T.F_count_fitting.kp T.b_count_fitting .nil pass0 (pa_cons (pv 0) (pa_cons (pv 1) (pa_cons (pe_op op_cat (pv 2) (pe_lst (pa_cons (pe_tup (pa_cons (pe_ix (HS.ixl K) (pv 3) pe_int (fun _ _ => rfl)) (pa_cons (pv 7) pa_nil))) pa_nil))) pa_nil)))) pe_int (nomark _)) (pw_and1 (pt_cmpR op_gt (pv 0) pe_int (nomark _))))))
      (pss_one (ps_ret pe_bl))
      pss_nil)))
    (pss_cons (ps_setLc (i := 8) (own := [("spot", 10), ("number", 7)]) (g := gTup K 2 (gCons (gName 10) (gCons (gName 7) gNil))) rfl sc__law_added_right.nd rfl rfl (sw_true rfl rfl rfl (by decide +kernel)) (HS.kien K (pi_enum (by rfl) T.z_enumerate (pa_cons (pv 6) pa_nil))) (blkOk_by (own := [("spot", 10), ("number", 7)]) (N := N__law_added_right) (sc := defScope s__law_added_right) (by decide +kernel)) (fun _ _ _ _ _ => HS.kgt K (pg_tup rfl (pgs_cons (pg_name (i := 10) sc__law_added_right.nd rfl (by first | exact .inl rfl | exact .inr rfl)) (pgs_cons (pg_name (i := 7) sc__law_added_right.nd rfl (by first | exact .inl rfl | exact .inr rfl)) pgs_nil)))) (fun _ _ _ _ _ => (pts_one (pt_cmpR op_eq (pv 7) pe_int (nomark _)))) (fun _ _ _ _ _ => (pv 10)))
    (pss_one (ps_ret (pe_cmpR (HS.keq K (hu64 hr)) (pe_lc (own := [("spot", 10)]) (g := gName 10) rfl sc__law_added_right.nd (HS.kil K (pi_list (pv 8))) (blkOk_by (own := [("spot", 10)]) (N := N__law_added_right) (sc := defScope s__law_added_right) (by decide +kernel)) (fun _ _ _ _ _ => pg_name (i := 10) sc__law_added_right.nd rfl (by first | exact .inl rfl | exact .inr rfl)) (fun _ _ _ _ _ => (pts_one (pt_cmpR op_isN (pe_call G_contradiction hr (by rfl) T.g_contradiction T.F_contradiction.kp T.b_contradiction .nil pass0 (pa_cons (pv 0) (pa_cons (pv 1) (pa_cons (pe_op op_cat (pv 2) (pe_lst (pa_cons (pe_tup (pa_cons (pe_ix (HS.ixl K) (pv 3) pe_int (fun _ _ => rfl)) (pa_cons (pe_op op_add (pv 0) (pv 10)) pa_nil))) pa_nil))) pa_nil)))) pe_non (nomark _)))) (fun _ _ _ _ _ => pe_int)) (pe_lst pa_nil) (nomark _))))))))), ?_⟩
    obtain ⟨hn1, hn, hnl, hl, hb, hP, hc, hpl, hB, hwb, W1, W2, hW, m1, m2, hE1, hE2, bf0, bf1, hmo, k⟩ := hw
    walk_at "hs"
    refine ⟨HS.divW 100 (by omega) m2 (by decide) (by decide), ?_⟩
    have mo0 : 0 ≤ (bf - n) / m := Int.ediv_nonneg bf0 (by omega)
    obtain ⟨M, hM⟩ : ∃ M : Nat, (bf - n) / m = M := ⟨((bf - n) / m).toNat, by omega⟩
    rw [hM]
    have one : ∀ (z : Int), -(2 ^ 98) < z → z < 2 ^ 98 → ∀ p ∈ ps ++ [(W, z)], 1 ≤ p.1 ∧ p.1 < 2 ^ 100 ∧ -(2 ^ 98) < p.2 ∧ p.2 < 2 ^ 98 := fun z z0 z1 p hp => by
      rcases List.mem_append.mp hp with hp | hp
      · exact hB p hp
      · rw [List.mem_singleton] at hp
        subst hp
        exact ⟨W1, W2, z0, z1⟩
    have chk : ∀ z : Int, ChOk 0 (ps ++ [(W, z)]) := fun z => chok_app hc hW
    have wid : ∀ p : Int × Int, (1 ≤ p.1 ∧ p.1 < 2 ^ 100 ∧ -(2 ^ 98) < p.2 ∧ p.2 < 2 ^ 98) → p.1 < 2 ^ 150 ∧ -(2 ^ 150) < p.2 ∧ p.2 < 2 ^ 150 := fun p h => by omega
    have plb : ∀ z : Int, -(2 ^ 98) < z → z < 2 ^ 98 → ∀ t ∈ plc n 1 (l - n) (ps ++ [(W, z)]), t.2.1 < 2 ^ 200 ∧ -(2 ^ 200) < t.2.1 ∧ t.2.2 < 2 ^ 200 := fun z z0 z1 => plc_bound2 n (by omega) (one z z0 z1) (by decide) (by omega) (by omega)
    have l0 : 0 ≤ l := by omega
    have hMm : bf - n < ((M + 1 : Nat) : Int) * m := by
      have := Int.lt_ediv_add_one_mul_self (bf - n) (show 0 < m by omega)
      rw [hM] at this
      push_cast
      exact this
    obtain ⟨wf, hwf⟩ : ∃ wf : Int → Int, ∀ z, wf z = ways n (plc n 1 (l - n) (ps ++ [(W, z)])) := ⟨_, fun _ => rfl⟩
    have wsum : ((List.range (M + 1)).map fun (f : Nat) => wf ((n : Int) + f)).sum = ways n (plc n 1 (l - n) ps) := by
      have := ways_sum (n := n) (ps := ps) (w := W) (l := l) (N := M + 1) m1 hE1 (by rw [hE2]; exact bf0) (by rw [hE2]; exact hMm)
      rw [← this]
      exact congrArg _ (List.map_congr_left fun f _ => hwf _)
    have wnn : ∀ z, 0 ≤ wf z := fun z => by rw [hwf]; exact ways_nonneg _ _
    have wzero : ∀ z : Int, (z - n < 0 ∨ (M : Int) < z - n) → wf z = 0 := fun z hz => by
      rw [hwf, ways_more]
      show _ * (lstN n (W / _) (_ - W / _ * (z - n)) * lstN n (z - n + 1) (z - n)) = 0
      rw [hE1, hE2]
      rcases hz with hz | hz
      · rw [lstN_neg hz, Int.mul_zero, Int.mul_zero]
      · have : (M + 1 : Int) * m ≤ (z - n) * m := Int.mul_le_mul_of_nonneg_right (by omega) (by omega)
        push_cast at hMm
        rw [lstN_neg (show bf - n - m * (z - n) < 0 by rw [Int.mul_comm m]; omega), Int.zero_mul, Int.mul_zero]
    have wdue : ∀ z, 0 < wf z ↔ dueX n l (ps ++ [(W, z)]) = none := fun z => by rw [hwf]; exact ways_due l0 (chk z)
    walk_at "hs"
    refine ⟨by omega, by omega, fun D hD => ?_⟩
    rw [show ((M : Int) + 1).toNat = M + 1 by omega]
    refine lc_range (lo := 0) (n := M + 1) (fun j H' => HS.Keep (fun _ => False) H H' ∧ H' D = some (.lst (((List.range j).map fun (f : Nat) => wf ((n : Int) + f)).map V.int))) ⟨.new hD, upd_same⟩ ?_ ?_
    · rintro j H1 hj ⟨K1, hD1⟩
      have hb1 := K1 _ _ hb id
      have hwb1 := K1 _ _ hwb id
      have hP1 := HS.Prs.same hP K1
      walk_at "hs"
      intro t ht
      generalize hG_t : upd _ t _ = H2
      have at_t := HS.upgs hG_t
      have Kn_t := HS.upgK hG_t ht
      clear hG_t
      replace hb1 := Kn_t _ _ hb1 id
      replace hD1 := Kn_t _ _ hD1 id
      have hP1 := HS.Prs.same hP1 Kn_t
      walk_at "hs"
      intro u hu
      generalize hG_u : upd _ u _ = H3
      have at_u := HS.upgs hG_u
      have Kn_u := HS.upgK hG_u hu
      clear hG_u
      replace hb1 := Kn_u _ _ hb1 id
      replace hD1 := Kn_u _ _ hD1 id
      replace at_t := Kn_u _ _ at_t id
      have hP1 := HS.Prs.same hP1 Kn_u
      have zl := hP.len
      walk_at "hs"
      intro v hv
      generalize hG_v : upd _ v _ = H4
      have at_v := HS.upgs hG_v
      have Kn_v := HS.upgK hG_v hv
      clear hG_v
      replace hD1 := Kn_v _ _ hD1 id
      replace at_t := Kn_v _ _ at_t id
      have hP1 := HS.Prs.same hP1 Kn_v
      have n0 : (n : Int) + (0 + (j : Int)) = n + j := by omega
      rw [n0] at at_t
      refine ⟨v, zs ++ [.ref t], ps ++ [(W, (n : Int) + j)], n, l, rfl, l0, by omega, by omega, HS.sq at_v, HS.Prs.snoc hP1 at_t, chk _, by rw [List.length_append]; show _ + 1 ≤ 25; omega, fun p hp => wid p (one _ (by omega) (by omega) p hp), plb _ (by omega) (by omega), fun H5 K5 => ?_⟩
      refine ⟨_, K5 _ _ hD1 id, HS.sz (by rw [List.length_map, List.length_map, List.length_range]; omega), (K1.trans (Kn_t.trans (Kn_u.trans (Kn_v.trans K5)))).put hD, ?_⟩
      rw [upd_same, List.range_succ, List.map_append, List.map_append, ← hwf]
      rfl
    · rintro H1 ⟨K1, hD1⟩
      have hb1 := K1 _ _ hb id
      have hP1 := HS.Prs.same hP K1
      walk_at "hs"
      refine ⟨b, zs, ps, n, l, rfl, l0, by omega, by omega, HS.sq hb1, hP1, hc, by omega, fun p hp => wid p (hB p hp), plc_bound2 n (by omega) hB (by decide) (by omega) (by omega), fun H2 K2 => ?_⟩
      have hD2 := K2 _ _ hD1 id
      walk_at "hs"
      refine HS.in0 wsum ?_
      walk_at "hs"
      refine ⟨D, _, rfl, HS.sq hD2, by rw [List.length_map, List.length_range]; omega, fun mn hmn _ => ?_⟩
      obtain ⟨f, _, rfl⟩ := List.mem_map.mp hmn
      have := wnn ((n : Int) + f)
      walk_at "hs"
      refine HS.it0 (by omega) ?_
      walk_at "hs"
      have K02 := K1.trans K2
      intro q hq
      generalize hG_q : upd _ q _ = H3
      have at_q := HS.upgs hG_q
      have Kn_q := HS.upgK hG_q hq
      clear hG_q
      replace hD2 := Kn_q _ _ hD2 id
      have K03 := K02.trans Kn_q
      walk_at "hs"
      refine ⟨⟨_, HS.sq at_q⟩, for_list (xs := [.int ((n : Int) - 1), .int ((n : Int) + M + 1), .int (0 - (n : Int)), .int ((n : Int) + M + 10000000000000000000000000000)]) (fun j σ H' => HS.Keep (fun _ => False) H3 H' ∧ ∃ x7 x8 x9 x10, σ = [some (.int n), some (.int l), some (.ref b), some (.ref wb), some (.int bf), some (.int M), some (.ref D), x7, x8, x9, x10]) ⟨.refl, _, _, _, _, rfl⟩ (fun j σ H' _ ⟨K', _⟩ => HS.sq (K' _ _ at_q id)) ?_ ?_⟩
      · rintro j x σ H4 hj ⟨K4, x7, x8, x9, x10, rfl⟩
        obtain ⟨z, rfl, hz1, hz2, hz3⟩ : ∃ z : Int, x = .int z ∧ (z - n < 0 ∨ (M : Int) < z - n) ∧ -(2 ^ 98) < z ∧ z < 2 ^ 98 := by
          match j, hj with
          | 0, hj => cases hj; exact ⟨_, rfl, by omega, by omega, by omega⟩
          | 1, hj => cases hj; exact ⟨_, rfl, by omega, by omega, by omega⟩
          | 2, hj => cases hj; exact ⟨_, rfl, by omega, by omega, by omega⟩
          | 3, hj => cases hj; exact ⟨_, rfl, by omega, by omega, by omega⟩
          | _ + 4, hj => cases hj
        have K04 := K03.trans K4
        have hb4 := K04 _ _ hb id
        have hwb4 := K04 _ _ hwb id
        have hP4 := HS.Prs.same hP K04
        have zl := hP.len
        walk_at "hs"
        refine HS.itn (fun hne => ?_) (fun hne => ?_)
        · walk_at "hs"
          intro t ht
          generalize hG_t : upd _ t _ = H5
          have at_t := HS.upgs hG_t
          have Kn_t := HS.upgK hG_t ht
          clear hG_t
          replace hb4 := Kn_t _ _ hb4 id
          have hP4 := HS.Prs.same hP4 Kn_t
          walk_at "hs"
          intro u hu
          generalize hG_u : upd _ u _ = H6
          have at_u := HS.upgs hG_u
          have Kn_u := HS.upgK hG_u hu
          clear hG_u
          replace hb4 := Kn_u _ _ hb4 id
          replace at_t := Kn_u _ _ at_t id
          have hP4 := HS.Prs.same hP4 Kn_u
          walk_at "hs"
          intro v hv
          generalize hG_v : upd _ v _ = H7
          have at_v := HS.upgs hG_v
          have Kn_v := HS.upgK hG_v hv
          clear hG_v
          replace at_t := Kn_v _ _ at_t id
          have hP4 := HS.Prs.same hP4 Kn_v
          refine ⟨v, zs ++ [.ref t], ps ++ [(W, z)], n, l, rfl, l0, by omega, by omega, HS.sq at_v, HS.Prs.snoc hP4 at_t, chk _, by rw [List.length_append]; show _ + 1 ≤ 25; omega, fun p hp => wid p (one _ hz2 hz3 p hp), plb _ hz2 hz3, fun H8 K8 => ?_⟩
          rw [← hwf, wzero z hz1]
          walk_at "hs"
          refine HS.in0 rfl ?_
          walk_at "hs"
          exact ⟨K4.trans (Kn_t.trans (Kn_u.trans (Kn_v.trans K8))), _, _, _, _, rfl⟩
        · walk_at "hs"
          exact ⟨K4, _, _, _, _, rfl⟩
      · rintro σ H4 ⟨K4, x7, x8, x9, x10, rfl⟩
        have hD4 := K4 _ _ hD2 id
        have K04 := K03.trans K4
        walk_at "hs"
        refine ⟨D, _, rfl, HS.sq hD4, fun S hS => ?_⟩
        refine lc_it walk_enum (fun j H' => HS.Keep (fun _ => False) H4 H' ∧ ∃ ss : List Int, H' S = some (.lst (ss.map V.int)) ∧ ss.length ≤ j ∧ ∀ y ∈ ss, ∃ f : Nat, y = (f : Int) ∧ f ≤ M ∧ wf ((n : Int) + f) = 0) ⟨.new hS, [], upd_same, Nat.le_refl _, fun y hy => absurd hy List.not_mem_nil⟩ (fun j H' _ ⟨K', _⟩ => HS.sq (K' _ _ hD4 id)) ?_ ?_
        · rintro j x H5 H6 hj ⟨K5, ss, hS5, hsl, hss⟩ ⟨T1, u, v, rfl, hT1, rfl, e1, e2⟩
          cases e1
          obtain ⟨z, rfl, hz, hjl⟩ := HS.get_int e2
          rw [List.length_map, List.length_range] at hjl
          rw [List.getElem?_map, List.getElem?_range hjl] at hz
          have hz' := Option.some.inj hz
          have KT : HS.Keep (fun _ => False) H5 (upd H5 T1 (.tup [.int (j : Nat), .int z])) := .new hT1
          have hS6 := KT _ _ hS5 id
          have hT6 := upd_same (H := H5) (a := T1) (o := .tup [.int (j : Nat), .int z])
          have K6 := K5.trans KT
          generalize upd H5 T1 (.tup [.int (j : Nat), .int z]) = H6 at KT hS6 hT6 K6 ⊢
          walk_at "hs"
          refine HS.itd (fun h0 => ?_) (fun h0 => ?_)
          · walk_at "hs"
            refine ⟨_, hS6, HS.sz (by rw [List.length_map]; omega), K6.put hS, ss ++ [(j : Int)], by rw [upd_same, List.map_append]; rfl, by rw [List.length_append]; exact Nat.succ_le_succ hsl, fun y hy => ?_⟩
            rcases List.mem_append.mp hy with hy | hy
            · exact hss y hy
            · rw [List.mem_singleton] at hy
              exact ⟨j, hy, by omega, by have hz2 : wf ((n : Int) + j) = z := hz'; rw [hz2, h0]⟩
          · exact ⟨K6, ss, hS6, by omega, hss⟩
        · rintro H5 ⟨K5, ss, hS5, hsl, hss⟩
          rw [List.length_map, List.length_map, List.length_range] at hsl
          have K05 := K04.trans K5
          walk_at "hs"
          refine ⟨⟨_, HS.sq hS5⟩, fun E0 hE0 => ?_⟩
          refine lc_list (xs := ss.map V.int) (fun j H' => HS.Keep (fun _ => False) H5 H' ∧ H' E0 = some (.lst [])) ⟨.new hE0, upd_same⟩ (fun j H' _ ⟨K', _⟩ => HS.sq (K' _ _ hS5 id)) ?_ ?_
          · rintro j x H6 hj ⟨K6, hE6⟩
            obtain ⟨y, rfl, hy, _⟩ := HS.get_int hj
            obtain ⟨f, rfl, hf, hw0⟩ := hss y (List.mem_of_getElem? hy)
            have K06 := K05.trans K6
            have hb6 := K06 _ _ hb id
            have hwb6 := K06 _ _ hwb id
            have hP6 := HS.Prs.same hP K06
            have zl := hP.len
            walk_at "hs"
            intro t ht
            generalize hG_t : upd _ t _ = H7
            have at_t := HS.upgs hG_t
            have Kn_t := HS.upgK hG_t ht
            clear hG_t
            replace hb6 := Kn_t _ _ hb6 id
            replace hE6 := Kn_t _ _ hE6 id
            have hP6 := HS.Prs.same hP6 Kn_t
            walk_at "hs"
            intro u hu
            generalize hG_u : upd _ u _ = H8
            have at_u := HS.upgs hG_u
            have Kn_u := HS.upgK hG_u hu
            clear hG_u
            replace hb6 := Kn_u _ _ hb6 id
            replace hE6 := Kn_u _ _ hE6 id
            replace at_t := Kn_u _ _ at_t id
            have hP6 := HS.Prs.same hP6 Kn_u
            walk_at "hs"
            intro v hv
            generalize hG_v : upd _ v _ = H9
            have at_v := HS.upgs hG_v
            have Kn_v := HS.upgK hG_v hv
            clear hG_v
            replace hE6 := Kn_v _ _ hE6 id
            replace at_t := Kn_v _ _ at_t id
            have hP6 := HS.Prs.same hP6 Kn_v
            have nd : ¬ dueX n l (ps ++ [(W, (n : Int) + f)]) = none := fun z => by
              have := (wdue _).mpr z
              omega
            refine ⟨v, zs ++ [.ref t], ps ++ [(W, (n : Int) + f)], n, l, rfl, l0, by omega, by omega, HS.sq at_v, HS.Prs.snoc hP6 at_t, chk _, by rw [List.length_append]; show _ + 1 ≤ 25; omega, fun p hp => wid p (one _ (by omega) (by omega) p hp), fun z => absurd z nd, fun i1 j1 _ Ha pp Ka _ _ => ?_⟩
            walk_at "hs"
            refine ⟨rfl, ?_⟩
            rw [decide_eq_false (show ¬ (V.ref pp = V.non) from fun z => by cases z)]
            walk_at "hs"
            exact ⟨K6.trans (Kn_t.trans (Kn_u.trans (Kn_v.trans Ka))), Ka _ _ hE6 id⟩
          · rintro H6 ⟨K6, hE6⟩
            walk_at "hs"
            intro e hee
            generalize hG_e : upd _ e _ = H7
            have at_e := HS.upgs hG_e
            have Kn_e := HS.upgK hG_e hee
            clear hG_e
            replace hE6 := Kn_e _ _ hE6 id
            refine HS.eqL (xs := []) (ys := []) (HS.sq hE6) (HS.sq at_e) ?_
            rw [decide_eq_true rfl]
            exact k _ ((K05.trans K6).trans Kn_e)
def sp_law (K : PySem.W.Frag) : Sp := fun vs H Q _ => ∃ (a : Addr) (ns : List Int), vs = [.ref a] ∧ (SqL K H a (ns.map V.int) ∧ ns.length ≤ 63 ∧ ∀ H', Q (.bl true) H')
theorem ok_law (T : Txt K mg A) : FnOk P w K mg base CX0 5 A.a_law A.d_law ["script"] (sp_law K) := by
  have G__law_rng : FnOk P w K mg base CX0 1 A.a__law_rng A.d__law_rng ["script"] (sp__law_rng K) := ok__law_rng T
  have G__law_draw : FnOk P w K mg base CX0 1 A.a__law_draw A.d__law_draw ["rng", "limit"] (sp__law_draw K) := ok__law_draw T
  have G_count_fitting : FnOk P w K mg base CX0 3 A.a_count_fitting A.d_count_fitting ["chapters", "lines", "chain"] (sp_count_fitting K) := ok_count_fitting T
  have G__law_binomial : FnOk P w K mg base CX0 1 A.a__law_binomial A.d__law_binomial ["many", "few"] (sp__law_binomial K) := ok__law_binomial T
  have G__law_added_right : FnOk P w K mg base CX0 4 A.a__law_added_right A.d__law_added_right ["many", "total", "rows", "wide", "before"] (sp__law_added_right K) := ok__law_added_right T
  refine T.F_law.ok sc_law (fun vs H Q E h => ?_) (fun cdv A0 outer s H vs Q E hr h => ?_)
  · obtain ⟨a, ns, rfl, hw⟩ := h
    rfl
  · obtain ⟨a, ns, rfl, hw⟩ := h
    refine ⟨_, (pss_cons (ps_set (i := 1) sc_law.nd rfl (.inl rfl) (pe_call G__law_rng (hr.mono (by decide)) (by rfl) T.g__law_rng T.F__law_rng.kp T.b__law_rng .nil pass0 (pa_cons (pv 0) pa_nil)))
    (pss_cons (ps_for PassesOwn.never rfl (pi_range1 (by rfl) T.z_range (pa_cons (pe_op op_add pe_int (pe_callB (call_min2 rfl) (by rfl) T.z_min (by decide +kernel) (pa_cons pe_int (pa_cons (pe_callB (HS.klen K) (by rfl) T.z_len PySem.boot_len (pa_cons (pv 0) pa_nil)) pa_nil)))) pa_nil)) (pg_name (i := 2) sc_law.nd rfl (.inl rfl))
      (pss_cons (ps_set (i := 3) sc_law.nd rfl (.inl rfl) (pe_op op_add pe_int (pe_call G__law_draw (hr.mono (by decide)) (by rfl) T.g__law_draw T.F__law_draw.kp T.b__law_draw .nil pass0 (pa_cons (pv 1) (pa_cons (pe_ix (HS.ixl K) (pe_lst (pa_cons pe_int (pa_cons pe_int pa_nil))) (pe_call G__law_draw (hr.mono (by decide)) (by rfl) T.g__law_draw T.F__law_draw.kp T.b__law_draw .nil pass0 (pa_cons (pv 1) (pa_cons pe_int pa_nil))) (fun _ _ => rfl)) pa_nil)))))
    (pss_cons (ps_set (i := 4) sc_law.nd rfl (.inl rfl) (pe_op op_add (pv 3) (pe_call G__law_draw (hr.mono (by decide)) (by rfl) T.g__law_draw T.F__law_draw.kp T.b__law_draw .nil pass0 (pa_cons (pv 1) (pa_cons (pe_ix (HS.ixl K) (pe_lst (pa_cons pe_int (pa_cons pe_int (pa_cons (HS.pe_fold (100000000000000000000000000000) (pe_op op_pow pe_int pe_int) (by intro σ H Q q; walk_at "fold")) pa_nil)))) (pe_call G__law_draw (hr.mono (by decide)) (by rfl) T.g__law_draw T.F__law_draw.kp T.b__law_draw .nil pass0 (pa_cons (pv 1) (pa_cons pe_int pa_nil))) (fun _ _ => rfl)) pa_nil)))))
    (pss_cons (ps_if (pt_cmpR op_ne (pe_call G_count_fitting (hr.mono (by decide)) (by rfl) T.g_count_fitting T.F_count_fitting.kp T.b_count_fitting .nil pass0 (pa_cons (pv 3) (pa_cons (pv 4) (pa_cons (pe_lst pa_nil) pa_nil)))) (pe_call G__law_binomial (hr.mono (by decide)) (by rfl) T.g__law_binomial T.F__law_binomial.kp T.b__law_binomial .nil pass0 (pa_cons (pe_op op_sub (pv 4) pe_int) (pa_cons (pe_op op_sub (pv 3) pe_int) pa_nil))) (nomark _))
      (pss_one (ps_ret pe_bl))
      pss_nil)
    (pss_cons (ps_par3 (i := 5) (j := 6) (l := 7) rfl sc_law.nd rfl rfl rfl (by decide) (by decide) (by decide) rfl rfl rfl (pa_cons (pe_lst pa_nil) (pa_cons pe_int (pa_cons (pv 4) pa_nil))) (by rfl))
    (pss_cons (ps_for PassesOwn.never rfl (pi_range1 (by rfl) T.z_range (pa_cons (pe_op op_add pe_int (pe_call G__law_draw (hr.mono (by decide)) (by rfl) T.g__law_draw T.F__law_draw.kp T.b__law_draw .nil pass0 (pa_cons (pv 1) (pa_cons pe_int pa_nil)))) pa_nil)) (pg_name (i := 8) sc_law.nd rfl (.inl rfl))
      (pss_cons (ps_set (i := 9) sc_law.nd rfl (.inl rfl) (pe_op op_add (pe_op op_add pe_int (pe_op op_fdivW (pe_op op_sub (pv 7) (pv 3)) (pe_op op_add pe_int (pe_call G__law_draw (hr.mono (by decide)) (by rfl) T.g__law_draw T.F__law_draw.kp T.b__law_draw .nil pass0 (pa_cons (pv 1) (pa_cons pe_int pa_nil)))))) (pe_call G__law_draw (hr.mono (by decide)) (by rfl) T.g__law_draw T.F__law_draw.kp T.b__law_draw .nil pass0 (pa_cons (pv 1) (pa_cons pe_int pa_nil)))))
    (pss_cons (ps_set (i := 9) sc_law.nd rfl (.inl rfl) (pe_callB (call_max2 rfl) (by rfl) T.z_max (by decide +kernel) (pa_cons (pv 9) (pa_cons (pe_op op_add pe_int (pe_callTy call_int1 (by rfl) T.z_int (by decide +kernel) (pa_cons (pe_cmpR (HS.kne K (hu64 hr)) (pv 5) (pe_lst pa_nil) (nomark _)) pa_nil))) pa_nil))))
    (pss_cons (ps_set (i := 6) sc_law.nd rfl (.inl rfl) (pe_op op_mulW (pv 6) (pv 9)))
    (pss_one (ps_if (pt_cmpR op_lt (pv 6) (HS.pe_fold (1000000000000000000000000000000) (pe_op op_pow pe_int pe_int) (by intro σ H Q q; walk_at "fold")) (nomark _))
      (pss_cons (ps_if (pt_not (pt_val (pe_call G__law_added_right hr (by rfl) T.g__law_added_right T.F__law_added_right.kp T.b__law_added_right .nil pass0 (pa_cons (pv 3) (pa_cons (pv 4) (pa_cons (pv 5) (pa_cons (pe_lst (pa_cons (pv 6) (pa_cons (pv 9) pa_nil))) (pa_cons (pv 7) pa_nil))))))))
      (pss_one (ps_ret pe_bl))
      pss_nil)
    (pss_cons (ps_set (i := 7) sc_law.nd rfl (.inl rfl) (pe_op op_add (pv 3) (pe_call G__law_draw (hr.mono (by decide)) (by rfl) T.g__law_draw T.F__law_draw.kp T.b__law_draw .nil pass0 (pa_cons (pv 1) (pa_cons (pe_op op_add (pe_op op_fdivW (pe_op op_sub (pv 7) (pv 3)) (pv 9)) pe_int) pa_nil)))))
    (pss_one (ps_expr (HS.kbm K (pe_bm PySem.F.plainAttrs_list PySem.F.slot_list_append PySem.F.type_list_append mt_append (pv 5) (pa_cons (pe_tup (pa_cons (pv 6) (pa_cons (pv 7) pa_nil))) pa_nil)))))))
      pss_nil))))))
    (pss_cons (ps_if (pt_cmpR op_ne (pe_call G_count_fitting (hr.mono (by decide)) (by rfl) T.g_count_fitting T.F_count_fitting.kp T.b_count_fitting .nil pass0 (pa_cons (pv 3) (pa_cons (pv 4) (pa_cons (pe_lst (pa_cons (pe_tup (pa_cons pe_int (pa_cons (pv 4) pa_nil))) pa_nil)) pa_nil)))) (pe_call G__law_binomial (hr.mono (by decide)) (by rfl) T.g__law_binomial T.F__law_binomial.kp T.b__law_binomial .nil pass0 (pa_cons (pe_op op_sub (pv 4) pe_int) (pa_cons (pe_op op_sub (pv 3) pe_int) pa_nil))) (nomark _))
      (pss_one (ps_ret pe_bl))
      pss_nil)
    (pss_one (ps_if (PW.pt (pw_or (pt_cmpR op_ne (pe_call G_count_fitting (hr.mono (by decide)) (by rfl) T.g_count_fitting T.F_count_fitting.kp T.b_count_fitting .nil pass0 (pa_cons (pv 3) (pa_cons (pv 4) (pa_cons (pe_lst (pa_cons (pe_tup (pa_cons pe_int (pa_cons (pe_op op_add (pv 4) pe_int) pa_nil))) pa_nil)) pa_nil)))) pe_int (nomark _)) (pw_or1 (pt_cmpR op_eq (pe_call G_count_fitting (hr.mono (by decide)) (by rfl) T.g_count_fitting T.F_count_fitting.kp T.b_count_fitting .nil pass0 (pa_cons (pv 3) (pa_cons (pv 4) (pa_cons (pe_lst (pa_cons (pe_tup (pa_cons (pv 4) (pa_cons (pv 3) pa_nil))) pa_nil)) pa_nil)))) pe_int (nomark _)))))
      (pss_one (ps_ret pe_bl))
      pss_nil)))))))))
    (pss_one (ps_ret (pe_and (pe_cmpR op_eq (pe_call G_count_fitting (hr.mono (by decide)) (by rfl) T.g_count_fitting T.F_count_fitting.kp T.b_count_fitting .nil pass0 (pa_cons pe_int (pa_cons (HS.pe_fold (100000000000000000000000000000) (pe_op op_pow pe_int pe_int) (by intro σ H Q q; walk_at "fold")) (pa_cons (pe_lst (pa_cons (pe_tup (pa_cons (HS.pe_fold (10000000000000000000000000000) (pe_op op_pow pe_int pe_int) (by intro σ H Q q; walk_at "fold")) (pa_cons pe_int pa_nil))) pa_nil)) pa_nil)))) pe_int (nomark _)) (pe_one (pe_cmpR op_eq (pe_call G_count_fitting (hr.mono (by decide)) (by rfl) T.g_count_fitting T.F_count_fitting.kp T.b_count_fitting .nil pass0 (pa_cons pe_int (pa_cons pe_int (pa_cons (pe_lst (pa_cons (pe_tup (pa_cons pe_int (pa_cons pe_int pa_nil))) pa_nil)) pa_nil)))) pe_int (nomark _)))))))), ?_⟩
    obtain ⟨hS, hl, k⟩ := hw
    walk_at "hs"
    refine ⟨a, ns, rfl, hS, hl, fun H1 s K1 hs S1 => ?_⟩
    have hS1 := K1.sq hS id
    walk_at "hs"
    rw [List.length_map]
    refine ⟨by split <;> omega, by split <;> omega, for_range (n := _) (fun i σ H' => Rng H' s (100 * i) ∧ ∃ x2 x3 x4 x5 x6 x7 x8 x9, σ = [some (.ref a), some (.ref s), x2, x3, x4, x5, x6, x7, x8, x9]) ⟨S1, _, _, _, _, _, _, _, _, rfl⟩ ?_ ?_⟩
    · rintro i σ H2 hi ⟨S2, x2, x3, x4, x5, x6, x7, x8, x9, rfl⟩
      have hi' : i < 9 := by split at hi <;> omega
      walk_at "hs"
      intro p1 hp1
      have nS2_p1 := S2.ne hp1
      generalize hG_p1 : upd _ p1 _ = H4
      have at_p1 := HS.upgs hG_p1
      have Kn_p1 := HS.upgK hG_p1 hp1
      clear hG_p1
      replace S2 := S2.same Kn_p1
      walk_at "hs"
      refine ⟨s, 2, _, rfl, S2, by decide, by decide, by omega, fun H5 v K5 S5 v0 v1 => ?_⟩
      refine HS.ixI [5, 40] (HS.sq (K5 _ _ at_p1 nS2_p1)) v0 v1 fun mt _ hmt => ?_
      have hmt' : 5 ≤ mt ∧ mt ≤ 40 := by simp only [List.mem_cons, List.not_mem_nil, or_false] at hmt; omega
      walk_at "hs"
      refine ⟨s, mt, _, rfl, S5, by omega, by omega, by omega, fun H6 nI K6 S6 n0 n1 => ?_⟩
      obtain ⟨n', rfl⟩ := Int.eq_ofNat_of_zero_le n0
      obtain ⟨n, hn⟩ : ∃ n : Nat, n = n' + 1 := ⟨_, rfl⟩
      have en : (1 : Int) + (n' : Int) = n := by omega
      walk_at "hs"
      rw [en]
      intro p2 hp2
      have nS6_p2 := S6.ne hp2
      generalize hG_p2 : upd _ p2 _ = H7
      have at_p2 := HS.upgs hG_p2
      have Kn_p2 := HS.upgK hG_p2 hp2
      clear hG_p2
      replace S6 := S6.same Kn_p2
      walk_at "hs"
      refine ⟨s, 3, _, rfl, S6, by decide, by decide, by omega, fun H8 w K8 S8 w0 w1 => ?_⟩
      refine HS.ixI [9, 300, 100000000000000000000000000000] (HS.sq (K8 _ _ at_p2 nS6_p2)) w0 w1 fun tp _ htp => ?_
      have htp' : 9 ≤ tp ∧ tp ≤ 100000000000000000000000000000 := by simp only [List.mem_cons, List.not_mem_nil, or_false] at htp; omega
      walk_at "hs"
      refine ⟨s, tp, _, rfl, S8, by omega, by omega, by omega, fun H9 R K9 S9 R0 R1 => ?_⟩
      obtain ⟨T, hT⟩ : ∃ T, (n : Int) + R = T := ⟨_, rfl⟩
      have eR : T - n = R := by omega
      have lf : lstN n (R + 1) R = ((HS.binC (R.toNat + n') n' : Nat) : Int) := by
        rw [lstN_free R0 (by omega), hn, An_bin R0]
        congr 2
        omega
      have free : ways n (plc n 1 (T - n) []) = ((HS.binC (R.toNat + n') n' : Nat) : Int) := by
        rw [ways_end, preW, endS, Int.one_mul, eR]
        exact lf
      walk_at "hs"
      rw [hT]
      intro p3 hp3
      have nS9_p3 := S9.ne hp3
      generalize hG_p3 : upd _ p3 _ = H10
      have at_p3 := HS.upgs hG_p3
      have Kn_p3 := HS.upgK hG_p3 hp3
      clear hG_p3
      replace S9 := S9.same Kn_p3
      refine ⟨p3, [], [], n, T, rfl, by omega, by omega, by omega, HS.sq at_p3, trivial, trivial, by decide, (fun p hp => by cases hp), plc_bound2 n (by omega) (fun p hp => by cases hp) (by decide) (by omega) (by omega), fun H11 K11 => ?_⟩
      have S11 := S9.same K11
      rw [free]
      walk_at "hs"
      refine ⟨R.toNat, n', by rw [show T - 1 = ((R.toNat : Nat) : Int) + n' by omega, show (n : Int) - 1 = n' by omega], by omega, by omega, ?_⟩
      refine HS.neI ?_
      rw [decide_eq_true rfl]
      walk_at "hs"
      intro F hF
      have nS11_F := S11.ne hF
      generalize hG_F : upd _ F _ = H12
      have at_F := HS.upgs hG_F
      have Kn_F := HS.upgK hG_F hF
      clear hG_F
      replace S11 := S11.same Kn_F
      walk_at "hs"
      refine ⟨s, 10, _, rfl, S11, by decide, by decide, by omega, fun H13 tu K13 S13 t0 t1 => ?_⟩
      have hF13 := K13 _ _ at_F nS11_F
      walk_at "hs"
      refine ⟨by omega, by omega, for_range (n := (1 + tu).toNat) (fun j σ H' => Rng H' s (100 * i + 6 + 3 * j) ∧ ∃ (zs : List V) (ps : List (Int × Int)) (wv bf : Int) (x8 x9 : Option V), σ = [some (.ref a), some (.ref s), some (.int (0 + (i : Int))), some (.int n), some (.int T), some (.ref F), some (.int wv), some (.int bf), x8, x9] ∧ H' F = some (.lst zs) ∧ HS.Prs H' zs ps ∧ ps.length ≤ j ∧ ChOk 0 ps ∧ (∀ p ∈ ps, 1 ≤ p.1 ∧ p.1 < 2 ^ 100 ∧ -(2 ^ 98) < p.2 ∧ p.2 < 2 ^ 98) ∧ 1 ≤ wv ∧ wv < 2 ^ (100 * (j + 1)) ∧ 0 ≤ bf - n ∧ bf ≤ T ∧ (1000000000000000000000000000000 ≤ wv ∨ (ps = [] ∧ wv = 1 ∧ bf = T) ∨ ∃ ps0, ps = ps0 ++ [(wv, bf)])) ⟨S13.up (by omega), [], [], 1, T, _, _, rfl, hF13, trivial, Nat.le_refl _, trivial, (fun p hp => by cases hp), by decide, by decide, by omega, Int.le_refl _, .inr (.inl ⟨rfl, rfl, rfl⟩)⟩ ?_ ?_⟩
      · rintro j σ H14 hj ⟨S14, zs, ps, wv, bf, x8, x9, rfl, hF14, hPr, hpl, hch, hpB, w1', w2', b0, b1, hst⟩
        have hj9 : j ≤ 9 := by omega
        walk_at "hs"
        refine ⟨s, 30, _, rfl, S14, by decide, by decide, by omega, fun H15 d K15 S15 d0 d1 => ?_⟩
        have hPr := S14.prs K15 hPr
        replace hF14 := K15 _ _ hF14 nS11_F
        walk_at "hs"
        refine ⟨HS.divW 62 (by omega) (by omega) (by decide) (by decide), ?_⟩
        walk_at "hs"
        refine ⟨s, 3, _, rfl, S15, by decide, by decide, by omega, fun H16 e K16 S16 e0 e1 => ?_⟩
        have hPr := S15.prs K16 hPr
        replace hF14 := K16 _ _ hF14 nS11_F
        have q0 : 0 ≤ (bf - n) / (1 + d) := Int.ediv_nonneg b0 (by omega)
        have q1 : (bf - n) / (1 + d) ≤ bf - n := Int.ediv_le_self _ b0
        have q2 : bf - n < ((bf - n) / (1 + d) + 1) * (1 + d) := Int.lt_ediv_add_one_mul_self _ (by omega)
        have q3 : ((bf - n) / (1 + d) + 1) * (1 + d) ≤ ((bf - n) / (1 + d) + 1) * 30 := Int.mul_le_mul_of_nonneg_left (by omega) (by omega)
        generalize (bf - n) / (1 + d) = qd at q0 q1 q2 q3 ⊢
        walk_at "hs"
        intro e9 he9
        have nS16_e9 := S16.ne he9
        generalize hG_e9 : upd _ e9 _ = H17
        have at_e9 := HS.upgs hG_e9
        have Kn_e9 := HS.upgK hG_e9 he9
        clear hG_e9
        replace hF14 := Kn_e9 _ _ hF14 id
        replace S16 := S16.same Kn_e9
        have hPr := HS.Prs.same hPr Kn_e9
        refine HS.neP (ys := []) (HS.sq hF14) hPr (HS.sq at_e9) trivial ?_
        refine .inr ⟨_, rfl, ?_⟩
        walk_at "hs"
        obtain ⟨fa, hfa, f1, f2, f3⟩ : ∃ fa : Int, (if (1 : Int) + (if (!decide (ps = [])) = true then 1 else 0) > 1 + qd + e then (1 : Int) + (if (!decide (ps = [])) = true then 1 else 0) else 1 + qd + e) = fa ∧ 1 + qd ≤ fa ∧ fa ≤ 1 + qd + 3 ∧ (ps ≠ [] → 2 ≤ fa) := by
          refine ⟨_, rfl, ?_⟩
          by_cases z : ps = []
          · rw [if_neg (show ¬ ((!decide (ps = [])) = true) by simp [z])]
            refine ⟨?_, ?_, fun h => absurd z h⟩ <;> split <;> omega
          · rw [if_pos (show (!decide (ps = [])) = true by simp [z])]
            refine ⟨?_, ?_, fun _ => ?_⟩ <;> split <;> omega
        rw [hfa]
        refine ⟨HS.mulW (100 * (j + 1)) 100 (by omega) w2' (by omega) (by omega) (by omega) (by decide) (by omega), ?_⟩
        walk_at "hs"
        have wf1 : wv ≤ wv * fa := by have := Int.mul_le_mul_of_nonneg_left (show 1 ≤ fa by omega) (show 0 ≤ wv by omega); omega
        have wf2 : wv * fa < 2 ^ (100 * (j + 1 + 1)) := by
          have : wv * fa < 2 ^ (100 * (j + 1)) * 2 ^ 100 := Int.mul_lt_mul w2' (by omega) (by omega) (Int.pow_nonneg (by decide))
          rw [← Int.pow_add] at this
          rw [show 100 * (j + 1 + 1) = 100 * (j + 1) + 100 by omega]
          exact this
        refine HS.itd (fun hlt => ?_) (fun hlt => ?_)
        · have hst' : (ps = [] ∧ wv = 1 ∧ bf = T) ∨ ∃ ps0, ps = ps0 ++ [(wv, bf)] := by
            rcases hst with h | h
            · omega
            · exact h
          have hE : endS n 1 (T - n) ps = (wv, bf - n) := by
            rcases hst' with ⟨z1, z2, z3⟩ | ⟨ps0, z⟩
            · rw [z1, endS, z2, z3]
            · rw [z, endS_app]
          have hlast : ∀ x, ((0 : Int) :: ps.map (·.1)).getLast? = some x → x < wv * fa ∧ (0 < x → (wv * fa) % x = 0) := fun x hx => by
            rcases hst' with ⟨z1, z2, z3⟩ | ⟨ps0, z⟩
            · rw [z1] at hx
              have hx' : (0 : Int) = x := Option.some.inj hx
              exact ⟨by omega, fun h => by omega⟩
            · have hne : ps ≠ [] := by rw [z]; simp
              have hf2 := f3 hne
              rw [z, List.map_append, show (0 : Int) :: (ps0.map (·.1) ++ [(wv, bf)].map (·.1)) = ((0 : Int) :: ps0.map (·.1)) ++ [wv] from rfl, List.getLast?_concat] at hx
              have hx' := Option.some.inj hx
              subst hx'
              have : wv * 2 ≤ wv * fa := Int.mul_le_mul_of_nonneg_left hf2 (by omega)
              exact ⟨by omega, fun _ => Int.mul_emod_right wv fa⟩
          have fdiv : (bf - n) / fa ≤ 40 := by
            have : bf - n < 30 * fa := by omega
            have := (Int.ediv_lt_iff_lt_mul (show 0 < fa by omega)).mpr this
            omega
          have fdiv0 : 0 ≤ (bf - n) / fa := Int.ediv_nonneg b0 (by omega)
          have fdiv1 : (bf - n) / fa ≤ bf - n := Int.ediv_le_self _ b0
          walk_at "hs"
          intro wb hwb
          have nS16_wb := S16.ne hwb
          generalize hG_wb : upd _ wb _ = H18
          have at_wb := HS.upgs hG_wb
          have Kn_wb := HS.upgK hG_wb hwb
          clear hG_wb
          replace hF14 := Kn_wb _ _ hF14 id
          replace S16 := S16.same Kn_wb
          have hPr := HS.Prs.same hPr Kn_wb
          walk_at "hs"
          refine ⟨F, wb, zs, ps, n, T, wv * fa, fa, bf, rfl, by omega, by omega, by omega, by omega, hF14, hPr, hch, by omega, hpB, at_wb, by omega, by omega, hlast, by omega, by omega, by rw [hE]; exact Int.mul_ediv_cancel_left _ (by omega), by rw [hE], b0, by omega, fdiv, fun H19 K19 => ?_⟩
          have hPr := HS.Prs.same hPr K19
          replace hF14 := K19 _ _ hF14 id
          replace S16 := S16.same K19
          walk_at "hs"
          refine ⟨HS.divW 100 (by omega) (by omega) (by decide) (by decide), ?_⟩
          walk_at "hs"
          refine ⟨s, _, _, rfl, S16, by omega, by omega, by omega, fun H20 g K20 S20 g0 g1 => ?_⟩
          have hPr := S16.prs K20 hPr
          replace hF14 := K20 _ _ hF14 nS11_F
          have zl := hPr.len
          walk_at "hs"
          intro r hr1
          have nS20_r := S20.ne hr1
          generalize hG_r : upd _ r _ = H21
          have at_r := HS.upgs hG_r
          have Kn_r := HS.upgK hG_r hr1
          clear hG_r
          replace hF14 := Kn_r _ _ hF14 id
          replace S20 := S20.same Kn_r
          have hPr := HS.Prs.same hPr Kn_r
          walk_at "hs"
          refine ⟨(S20.put nS11_F).up (by omega), zs ++ [.ref r], ps ++ [(wv * fa, (n : Int) + g)], wv * fa, (n : Int) + g, _, _, rfl, upd_same, HS.Prs.snoc (HS.Prs.put hF14 hPr) (by rw [upd_ne (fun z => by rw [z, hF14] at at_r; cases at_r)]; exact at_r), by rw [List.length_append]; exact Nat.succ_le_succ hpl, chok_app hch hlast, fun p hp => ?_, by omega, wf2, by omega, by omega, .inr (.inr ⟨ps, rfl⟩)⟩
          rcases List.mem_append.mp hp with hp | hp
          · exact hpB p hp
          · rw [List.mem_singleton] at hp
            subst hp
            exact ⟨by show 1 ≤ wv * fa; omega, by show wv * fa < _; omega, by show _ < (n : Int) + g; omega, by show (n : Int) + g < _; omega⟩
        · walk_at "hs"
          exact ⟨S16.up (by omega), zs, ps, wv * fa, bf, _, _, rfl, hF14, hPr, by omega, hch, hpB, by omega, wf2, b0, b1, .inl (by omega)⟩
      · rintro σ H14 ⟨S14, zs, ps, wv, bf, x8, x9, rfl, _⟩
        have S14 := S14.up (show _ ≤ 100 * i + 60 by omega)
        walk_at "hs"
        intro t1 ht1
        have nS14_t1 := S14.ne ht1
        generalize hG_t1 : upd _ t1 _ = H15
        have at_t1 := HS.upgs hG_t1
        have Kn_t1 := HS.upgK hG_t1 ht1
        clear hG_t1
        replace S14 := S14.same Kn_t1
        walk_at "hs"
        intro u1 hu1
        have nS14_u1 := S14.ne hu1
        generalize hG_u1 : upd _ u1 _ = H16
        have at_u1 := HS.upgs hG_u1
        have Kn_u1 := HS.upgK hG_u1 hu1
        clear hG_u1
        replace at_t1 := Kn_u1 _ _ at_t1 id
        replace S14 := S14.same Kn_u1
        have c1 : ∀ z : Int, ChOk 0 [((1 : Int), z)] := fun z => ⟨by show (0 : Int) < 1; decide, fun h => absurd h (by decide), trivial⟩
        have bb : ∀ y z : Int, 1 ≤ y → y < 2 ^ 100 → -(2 ^ 98) < z → z < 2 ^ 98 → ∀ p ∈ [(y, z)], 1 ≤ p.1 ∧ p.1 < 2 ^ 100 ∧ -(2 ^ 98) < p.2 ∧ p.2 < 2 ^ 98 := fun y z h1 h2 h3 h4 p hp => by
          rw [List.mem_singleton] at hp
          subst hp
          exact ⟨h1, h2, h3, h4⟩
        have wid : ∀ p : Int × Int, (1 ≤ p.1 ∧ p.1 < 2 ^ 100 ∧ -(2 ^ 98) < p.2 ∧ p.2 < 2 ^ 98) → p.1 < 2 ^ 150 ∧ -(2 ^ 150) < p.2 ∧ p.2 < 2 ^ 150 := fun p h => by omega
        have wm : ∀ y z : Int, ways n (plc n 1 (T - n) [(y, z)]) = lstN n (y / 1) (R - y / 1 * (z - n)) * lstN n (z - n + 1) (z - n) := fun y z => by
          have := ways_more n (y, z) [] 1 (T - n)
          rw [List.nil_append, preW, endS, Int.one_mul, eR] at this
          rw [eR]
          exact this
        refine ⟨u1, _, [(1, T)], n, T, rfl, by omega, by omega, by omega, HS.sq at_u1, ⟨⟨t1, rfl, at_t1⟩, trivial⟩, c1 T, by show 1 ≤ 25; decide, fun p hp => wid p (bb 1 T (by decide) (by decide) (by omega) (by omega) p hp), plc_bound2 n (by omega) (bb 1 T (by decide) (by decide) (by omega) (by omega)) (by decide) (by omega) (by omega), fun H17 K17 => ?_⟩
        have e1 : ways n (plc n 1 (T - n) [(1, T)]) = ((HS.binC (R.toNat + n') n' : Nat) : Int) := by
          rw [wm, eR, show (1 : Int) / 1 = 1 from rfl, Int.one_mul, Int.sub_self, show lstN n 1 0 = 1 from rfl, Int.one_mul]
          exact lf
        rw [e1]
        have S17 := S14.same K17
        walk_at "hs"
        refine ⟨R.toNat, n', by rw [show T - 1 = ((R.toNat : Nat) : Int) + n' by omega, show (n : Int) - 1 = n' by omega], by omega, by omega, ?_⟩
        refine HS.neI ?_
        rw [decide_eq_true rfl]
        walk_at "hs"
        intro t2 ht2
        have nS17_t2 := S17.ne ht2
        generalize hG_t2 : upd _ t2 _ = H18
        have at_t2 := HS.upgs hG_t2
        have Kn_t2 := HS.upgK hG_t2 ht2
        clear hG_t2
        replace S17 := S17.same Kn_t2
        walk_at "hs"
        intro u2 hu2
        have nS17_u2 := S17.ne hu2
        generalize hG_u2 : upd _ u2 _ = H19
        have at_u2 := HS.upgs hG_u2
        have Kn_u2 := HS.upgK hG_u2 hu2
        clear hG_u2
        replace at_t2 := Kn_u2 _ _ at_t2 id
        replace S17 := S17.same Kn_u2
        refine ⟨u2, _, [(1, T + 1)], n, T, rfl, by omega, by omega, by omega, HS.sq at_u2, ⟨⟨t2, rfl, at_t2⟩, trivial⟩, c1 (T + 1), by show 1 ≤ 25; decide, fun p hp => wid p (bb 1 (T + 1) (by decide) (by decide) (by omega) (by omega) p hp), plc_bound2 n (by omega) (bb 1 (T + 1) (by decide) (by decide) (by omega) (by omega)) (by decide) (by omega) (by omega), fun H20 K20 => ?_⟩
        have e2 : ways n (plc n 1 (T - n) [(1, T + 1)]) = 0 := by
          rw [wm, show (1 : Int) / 1 = 1 from rfl, Int.one_mul, lstN_neg (show R - (T + 1 - n) < 0 by omega), Int.zero_mul]
        rw [e2]
        have S20 := S17.same K20
        walk_at "hs"
        refine HS.in0 rfl ?_
        walk_at "hs"
        intro t3 ht3
        have nS20_t3 := S20.ne ht3
        generalize hG_t3 : upd _ t3 _ = H21
        have at_t3 := HS.upgs hG_t3
        have Kn_t3 := HS.upgK hG_t3 ht3
        clear hG_t3
        replace S20 := S20.same Kn_t3
        walk_at "hs"
        intro u3 hu3
        have nS20_u3 := S20.ne hu3
        generalize hG_u3 : upd _ u3 _ = H22
        have at_u3 := HS.upgs hG_u3
        have Kn_u3 := HS.upgK hG_u3 hu3
        clear hG_u3
        replace at_t3 := Kn_u3 _ _ at_t3 id
        replace S20 := S20.same Kn_u3
        have T1 : 1 ≤ T := by omega
        refine ⟨u3, _, [(T, (n : Int))], n, T, rfl, by omega, by omega, by omega, HS.sq at_u3, ⟨⟨t3, rfl, at_t3⟩, trivial⟩, ⟨by show (0 : Int) < T; omega, fun h => absurd h (by decide), trivial⟩, by show 1 ≤ 25; decide, fun p hp => wid p (bb T n T1 (by omega) (by omega) (by omega) p hp), plc_bound2 n (by omega) (bb T n T1 (by omega) (by omega) (by omega)) (by decide) (by omega) (by omega), fun H23 K23 => ?_⟩
        have e3 : 0 < ways n (plc n 1 (T - n) [(T, (n : Int))]) := by
          rw [wm, Int.ediv_one, Int.sub_self, Int.mul_zero, Int.sub_zero, show lstN n (0 + 1) 0 = 1 from rfl, Int.mul_one]
          refine (lstN_pos T1).mpr ⟨R0, ?_⟩
          have := Int.mul_le_mul_of_nonneg_right (show (1 : Int) ≤ n by omega) (show 0 ≤ T - 1 by omega)
          omega
        walk_at "hs"
        refine HS.it0 (by omega) ?_
        walk_at "hs"
        exact ⟨(S20.same K23).up (by omega), _, _, _, _, _, _, _, _, rfl⟩
    · rintro σ H2 ⟨S2, x2, x3, x4, x5, x6, x7, x8, x9, rfl⟩
      walk_at "hs"
      intro q1 hq1
      generalize hG_q1 : upd _ q1 _ = H3
      have at_q1 := HS.upgs hG_q1
      have Kn_q1 := HS.upgK hG_q1 hq1
      clear hG_q1
      walk_at "hs"
      intro q2 hq2
      generalize hG_q2 : upd _ q2 _ = H4
      have at_q2 := HS.upgs hG_q2
      have Kn_q2 := HS.upgK hG_q2 hq2
      clear hG_q2
      replace at_q1 := Kn_q2 _ _ at_q1 id
      have big : ∀ t ∈ plc ((1 : Nat) : Int) 1 (100000000000000000000000000000 - ((1 : Nat) : Int)) [(10000000000000000000000000000, 10)], t.2.1 < 2 ^ 200 ∧ -(2 ^ 200) < t.2.1 ∧ t.2.2 < 2 ^ 200 := plc_bound2 1 (by decide) (fun p hp => by rw [List.mem_singleton.mp hp]; decide) (by decide) (by decide) (by decide)
      refine ⟨q2, _, [(10000000000000000000000000000, 10)], 1, 100000000000000000000000000000, rfl, by decide, by decide, by decide, HS.sq at_q2, ⟨⟨q1, rfl, at_q1⟩, trivial⟩, ⟨by decide, fun h => absurd h (by decide), trivial⟩, show 1 ≤ 25 by decide, fun p hp => by rw [List.mem_singleton.mp hp]; decide, big, fun H5 K5 => ?_⟩
      have w1 : ways 1 (plc ((1 : Nat) : Int) 1 (100000000000000000000000000000 - ((1 : Nat) : Int)) [(10000000000000000000000000000, 10)]) = 1 := by
        have := ways_more 1 (10000000000000000000000000000, 10) [] 1 (100000000000000000000000000000 - ((1 : Nat) : Int))
        rw [List.nil_append, preW, endS, Int.one_mul] at this
        rw [this]
        show lstN 1 (10000000000000000000000000000 / 1) (100000000000000000000000000000 - 1 - 10000000000000000000000000000 / 1 * (10 - 1)) * lstN 1 (10 - 1 + 1) (10 - 1) = 1
        rw [show (10000000000000000000000000000 : Int) / 1 = 10000000000000000000000000000 from rfl, show (100000000000000000000000000000 : Int) - 1 - 10000000000000000000000000000 * (10 - 1) = 9999999999999999999999999999 by decide, lstN_free (by decide) (by decide), lstN_free (by decide) (by decide), An_bin (by decide), An_bin (by decide), bin_0, bin_0]
        rfl
      rw [w1]
      walk_at "hs"
      refine HS.it1 rfl ?_
      walk_at "hs"
      intro q3 hq3
      generalize hG_q3 : upd _ q3 _ = H6
      have at_q3 := HS.upgs hG_q3
      have Kn_q3 := HS.upgK hG_q3 hq3
      clear hG_q3
      walk_at "hs"
      intro q4 hq4
      generalize hG_q4 : upd _ q4 _ = H7
      have at_q4 := HS.upgs hG_q4
      have Kn_q4 := HS.upgK hG_q4 hq4
      clear hG_q4
      replace at_q3 := Kn_q4 _ _ at_q3 id
      refine ⟨q4, _, [(2, 3)], 2, 4, rfl, by decide, by decide, by decide, HS.sq at_q4, ⟨⟨q3, rfl, at_q3⟩, trivial⟩, ⟨by decide, fun h => absurd h (by decide), trivial⟩, show 1 ≤ 25 by decide, fun p hp => by rw [List.mem_singleton.mp hp]; decide, plc_bound2 2 (by decide) (fun p hp => by rw [List.mem_singleton.mp hp]; decide) (by decide) (by decide) (by decide), fun H8 K8 => ?_⟩
      have w2 : ways 2 (plc ((2 : Nat) : Int) 1 (4 - ((2 : Nat) : Int)) [(2, 3)]) = 2 := by decide +kernel
      rw [w2]
      walk_at "hs"
      exact k _
end
theorem all_mk {l : PySem.W.OpenLaw} {w : World} {K : PySem.W.Frag} {h : Heap} {mg : Str → Option Value} {fa f0 f1 f2 f3 f4 f5 f6 f7 f8 f9 f10 f11 f12 f13 : Addr} (X : K.In h) (G : h.Ns mainGlobals mg) (hfa : mg "law" = some (.ref fa))
    {od0 an0 od1 an1 od2 an2 od3 an3 od4 an4 od5 an5 od6 an6 od7 an7 od8 an8 od9 an9 od10 an10 od11 an11 od12 an12 od13 an13 : Option Addr} {sl0 sl1 sl2 sl3 sl4 sl5 sl6 sl7 sl8 sl9 sl10 sl11 sl12 sl13 : Array (Option Value)} {oc0 kV0 dc0 pm0 cd0 ct0 oc1 kV1 dc1 pm1 cd1 ct1 oc2 kV2 dc2 pm2 cd2 ct2 oc3 kV3 dc3 pm3 cd3 ct3 oc4 kV4 dc4 pm4 cd4 ct4 oc5 kV5 dc5 pm5 cd5 ct5 oc6 kV6 dc6 pm6 cd6 ct6 oc7 kV7 dc7 pm7 cd7 ct7 oc8 kV8 dc8 pm8 cd8 ct8 oc9 kV9 dc9 pm9 cd9 ct9 oc10 kV10 dc10 pm10 cd10 ct10 oc11 kV11 dc11 pm11 cd11 ct11 oc12 kV12 dc12 pm12 cd12 ct12 oc13 kV13 dc13 pm13 cd13 ct13 : Value}
    (a0 : PySem.W.nsIn K mainGlobals "_law_rng" = some (some (.ref f0)))
    (l0 : K.lookup f0 = some ⟨oc0, od0, .func (PySem.W.fnOf "_law_rng" "_law_rng" (defArgs s__law_rng) (defBody s__law_rng) (defScope s__law_rng) .none kV0 dc0 pm0 an0 cd0 ct0), sl0⟩) (c0 : PySem.W.codeIn K cd0 "_law_rng" = true) (k0 : PySem.W.keepIn K (.ref f0) = true)
    (a1 : PySem.W.nsIn K mainGlobals "_law_draw" = some (some (.ref f1)))
    (l1 : K.lookup f1 = some ⟨oc1, od1, .func (PySem.W.fnOf "_law_draw" "_law_draw" (defArgs s__law_draw) (defBody s__law_draw) (defScope s__law_draw) .none kV1 dc1 pm1 an1 cd1 ct1), sl1⟩) (c1 : PySem.W.codeIn K cd1 "_law_draw" = true) (k1 : PySem.W.keepIn K (.ref f1) = true)
    (a2 : PySem.W.nsIn K mainGlobals "check_not_negative" = some (some (.ref f2)))
    (l2 : K.lookup f2 = some ⟨oc2, od2, .func (PySem.W.fnOf "check_not_negative" "check_not_negative" (defArgs s_check_not_negative) (defBody s_check_not_negative) (defScope s_check_not_negative) .none kV2 dc2 pm2 an2 cd2 ct2), sl2⟩) (c2 : PySem.W.codeIn K cd2 "check_not_negative" = true) (k2 : PySem.W.keepIn K (.ref f2) = true)
    (a3 : PySem.W.nsIn K mainGlobals "check_chain" = some (some (.ref f3)))
    (l3 : K.lookup f3 = some ⟨oc3, od3, .func (PySem.W.fnOf "check_chain" "check_chain" (defArgs s_check_chain) (defBody s_check_chain) (defScope s_check_chain) .none kV3 dc3 pm3 an3 cd3 ct3), sl3⟩) (c3 : PySem.W.codeIn K cd3 "check_chain" = true) (k3 : PySem.W.keepIn K (.ref f3) = true)
    (a4 : PySem.W.nsIn K mainGlobals "check_demands" = some (some (.ref f4)))
    (l4 : K.lookup f4 = some ⟨oc4, od4, .func (PySem.W.fnOf "check_demands" "check_demands" (defArgs s_check_demands) (defBody s_check_demands) (defScope s_check_demands) .none kV4 dc4 pm4 an4 cd4 ct4), sl4⟩) (c4 : PySem.W.codeIn K cd4 "check_demands" = true) (k4 : PySem.W.keepIn K (.ref f4) = true)
    (a5 : PySem.W.nsIn K mainGlobals "has_book" = some (some (.ref f5)))
    (l5 : K.lookup f5 = some ⟨oc5, od5, .func (PySem.W.fnOf "has_book" "has_book" (defArgs s_has_book) (defBody s_has_book) (defScope s_has_book) .none kV5 dc5 pm5 an5 cd5 ct5), sl5⟩) (c5 : PySem.W.codeIn K cd5 "has_book" = true) (k5 : PySem.W.keepIn K (.ref f5) = true)
    (a6 : PySem.W.nsIn K mainGlobals "list_places" = some (some (.ref f6)))
    (l6 : K.lookup f6 = some ⟨oc6, od6, .func (PySem.W.fnOf "list_places" "list_places" (defArgs s_list_places) (defBody s_list_places) (defScope s_list_places) .none kV6 dc6 pm6 an6 cd6 ct6), sl6⟩) (c6 : PySem.W.codeIn K cd6 "list_places" = true) (k6 : PySem.W.keepIn K (.ref f6) = true)
    (a7 : PySem.W.nsIn K mainGlobals "count_lists" = some (some (.ref f7)))
    (l7 : K.lookup f7 = some ⟨oc7, od7, .func (PySem.W.fnOf "count_lists" "count_lists" (defArgs s_count_lists) (defBody s_count_lists) (defScope s_count_lists) .none kV7 dc7 pm7 an7 cd7 ct7), sl7⟩) (c7 : PySem.W.codeIn K cd7 "count_lists" = true) (k7 : PySem.W.keepIn K (.ref f7) = true)
    (a8 : PySem.W.nsIn K mainGlobals "multiply_ways" = some (some (.ref f8)))
    (l8 : K.lookup f8 = some ⟨oc8, od8, .func (PySem.W.fnOf "multiply_ways" "multiply_ways" (defArgs s_multiply_ways) (defBody s_multiply_ways) (defScope s_multiply_ways) .none kV8 dc8 pm8 an8 cd8 ct8), sl8⟩) (c8 : PySem.W.codeIn K cd8 "multiply_ways" = true) (k8 : PySem.W.keepIn K (.ref f8) = true)
    (a9 : PySem.W.nsIn K mainGlobals "count_fitting" = some (some (.ref f9)))
    (l9 : K.lookup f9 = some ⟨oc9, od9, .func (PySem.W.fnOf "count_fitting" "count_fitting" (defArgs s_count_fitting) (defBody s_count_fitting) (defScope s_count_fitting) .none kV9 dc9 pm9 an9 cd9 ct9), sl9⟩) (c9 : PySem.W.codeIn K cd9 "count_fitting" = true) (k9 : PySem.W.keepIn K (.ref f9) = true)
    (a10 : PySem.W.nsIn K mainGlobals "contradiction" = some (some (.ref f10)))
    (l10 : K.lookup f10 = some ⟨oc10, od10, .func (PySem.W.fnOf "contradiction" "contradiction" (defArgs s_contradiction) (defBody s_contradiction) (defScope s_contradiction) .none kV10 dc10 pm10 an10 cd10 ct10), sl10⟩) (c10 : PySem.W.codeIn K cd10 "contradiction" = true) (k10 : PySem.W.keepIn K (.ref f10) = true)
    (a11 : PySem.W.nsIn K mainGlobals "_law_binomial" = some (some (.ref f11)))
    (l11 : K.lookup f11 = some ⟨oc11, od11, .func (PySem.W.fnOf "_law_binomial" "_law_binomial" (defArgs s__law_binomial) (defBody s__law_binomial) (defScope s__law_binomial) .none kV11 dc11 pm11 an11 cd11 ct11), sl11⟩) (c11 : PySem.W.codeIn K cd11 "_law_binomial" = true) (k11 : PySem.W.keepIn K (.ref f11) = true)
    (a12 : PySem.W.nsIn K mainGlobals "_law_added_right" = some (some (.ref f12)))
    (l12 : K.lookup f12 = some ⟨oc12, od12, .func (PySem.W.fnOf "_law_added_right" "_law_added_right" (defArgs s__law_added_right) (defBody s__law_added_right) (defScope s__law_added_right) .none kV12 dc12 pm12 an12 cd12 ct12), sl12⟩) (c12 : PySem.W.codeIn K cd12 "_law_added_right" = true) (k12 : PySem.W.keepIn K (.ref f12) = true)
    (a13 : PySem.W.nsIn K mainGlobals "law" = some (some (.ref f13)))
    (l13 : K.lookup f13 = some ⟨oc13, od13, .func (PySem.W.fnOf "law" "law" (defArgs s_law) (defBody s_law) (defScope s_law) .none kV13 dc13 pm13 an13 cd13 ct13), sl13⟩) (c13 : PySem.W.codeIn K cd13 "law" = true) (k13 : PySem.W.keepIn K (.ref f13) = true)
    (z0 : PySem.W.nsIn K mainGlobals "abs" = some none)
    (z1 : PySem.W.nsIn K mainGlobals "enumerate" = some none)
    (z2 : PySem.W.nsIn K mainGlobals "int" = some none)
    (z3 : PySem.W.nsIn K mainGlobals "len" = some none)
    (z4 : PySem.W.nsIn K mainGlobals "max" = some none)
    (z5 : PySem.W.nsIn K mainGlobals "min" = some none)
    (z6 : PySem.W.nsIn K mainGlobals "range" = some none)
    (z7 : PySem.W.nsIn K mainGlobals "sum" = some none)
    (y_comb : PySem.W.nsIn K mainGlobals "comb" = some (some (.builtin "math.comb")))
    : ∃ fd : FuncData, (∀ (s : Shared) (v : Value), BindsTo s fd ⟨[v], []⟩ [("script", v)]) ∧ ∀ base : Heap, K.In base → base.Ns mainGlobals mg → FnOk l.prog w K mg base CX0 5 fa fd ["script"] (sp_law K) := by
  have e := hfa.symm.trans (PySem.W.mg_of X G a13)
  cases e
  have F0 := fun_mk (st := s__law_rng) l0 c0 k0
  have F1 := fun_mk (st := s__law_draw) l1 c1 k1
  have F2 := fun_mk (st := s_check_not_negative) l2 c2 k2
  have F3 := fun_mk (st := s_check_chain) l3 c3 k3
  have F4 := fun_mk (st := s_check_demands) l4 c4 k4
  have F5 := fun_mk (st := s_has_book) l5 c5 k5
  have F6 := fun_mk (st := s_list_places) l6 c6 k6
  have F7 := fun_mk (st := s_count_lists) l7 c7 k7
  have F8 := fun_mk (st := s_multiply_ways) l8 c8 k8
  have F9 := fun_mk (st := s_count_fitting) l9 c9 k9
  have F10 := fun_mk (st := s_contradiction) l10 c10 k10
  have F11 := fun_mk (st := s__law_binomial) l11 c11 k11
  have F12 := fun_mk (st := s__law_added_right) l12 c12 k12
  have F13 := fun_mk (st := s_law) l13 c13 k13
  have T : Txt K mg ⟨f0, PySem.W.fnOf "_law_rng" "_law_rng" (defArgs s__law_rng) (defBody s__law_rng) (defScope s__law_rng) .none kV0 dc0 pm0 an0 cd0 ct0, f1, PySem.W.fnOf "_law_draw" "_law_draw" (defArgs s__law_draw) (defBody s__law_draw) (defScope s__law_draw) .none kV1 dc1 pm1 an1 cd1 ct1, f2, PySem.W.fnOf "check_not_negative" "check_not_negative" (defArgs s_check_not_negative) (defBody s_check_not_negative) (defScope s_check_not_negative) .none kV2 dc2 pm2 an2 cd2 ct2, f3, PySem.W.fnOf "check_chain" "check_chain" (defArgs s_check_chain) (defBody s_check_chain) (defScope s_check_chain) .none kV3 dc3 pm3 an3 cd3 ct3, f4, PySem.W.fnOf "check_demands" "check_demands" (defArgs s_check_demands) (defBody s_check_demands) (defScope s_check_demands) .none kV4 dc4 pm4 an4 cd4 ct4, f5, PySem.W.fnOf "has_book" "has_book" (defArgs s_has_book) (defBody s_has_book) (defScope s_has_book) .none kV5 dc5 pm5 an5 cd5 ct5, f6, PySem.W.fnOf "list_places" "list_places" (defArgs s_list_places) (defBody s_list_places) (defScope s_list_places) .none kV6 dc6 pm6 an6 cd6 ct6, f7, PySem.W.fnOf "count_lists" "count_lists" (defArgs s_count_lists) (defBody s_count_lists) (defScope s_count_lists) .none kV7 dc7 pm7 an7 cd7 ct7, f8, PySem.W.fnOf "multiply_ways" "multiply_ways" (defArgs s_multiply_ways) (defBody s_multiply_ways) (defScope s_multiply_ways) .none kV8 dc8 pm8 an8 cd8 ct8, f9, PySem.W.fnOf "count_fitting" "count_fitting" (defArgs s_count_fitting) (defBody s_count_fitting) (defScope s_count_fitting) .none kV9 dc9 pm9 an9 cd9 ct9, f10, PySem.W.fnOf "contradiction" "contradiction" (defArgs s_contradiction) (defBody s_contradiction) (defScope s_contradiction) .none kV10 dc10 pm10 an10 cd10 ct10, f11, PySem.W.fnOf "_law_binomial" "_law_binomial" (defArgs s__law_binomial) (defBody s__law_binomial) (defScope s__law_binomial) .none kV11 dc11 pm11 an11 cd11 ct11, f12, PySem.W.fnOf "_law_added_right" "_law_added_right" (defArgs s__law_added_right) (defBody s__law_added_right) (defScope s__law_added_right) .none kV12 dc12 pm12 an12 cd12 ct12, fa, PySem.W.fnOf "law" "law" (defArgs s_law) (defBody s_law) (defScope s_law) .none kV13 dc13 pm13 an13 cd13 ct13⟩ :=
    { F__law_rng := F0,
      g__law_rng := PySem.W.mg_of X G a0,
      b__law_rng := F0.binds (ps := ["script"]) fun _ _ _ _ _ _ us hl => match us, hl with | [_], _ => rfl,
      F__law_draw := F1,
      g__law_draw := PySem.W.mg_of X G a1,
      b__law_draw := F1.binds (ps := ["rng", "limit"]) fun _ _ _ _ _ _ us hl => match us, hl with | [_, _], _ => rfl,
      F_check_not_negative := F2,
      g_check_not_negative := PySem.W.mg_of X G a2,
      b_check_not_negative := F2.binds (ps := ["number"]) fun _ _ _ _ _ _ us hl => match us, hl with | [_], _ => rfl,
      F_check_chain := F3,
      g_check_chain := PySem.W.mg_of X G a3,
      b_check_chain := F3.binds (ps := ["chain"]) fun _ _ _ _ _ _ us hl => match us, hl with | [_], _ => rfl,
      F_check_demands := F4,
      g_check_demands := PySem.W.mg_of X G a4,
      b_check_demands := F4.binds (ps := ["chapters", "lines", "chain"]) fun _ _ _ _ _ _ us hl => match us, hl with | [_, _, _], _ => rfl,
      F_has_book := F5,
      g_has_book := PySem.W.mg_of X G a5,
      b_has_book := F5.binds (ps := ["chapters", "many"]) fun _ _ _ _ _ _ us hl => match us, hl with | [_, _], _ => rfl,
      F_list_places := F6,
      g_list_places := PySem.W.mg_of X G a6,
      b_list_places := F6.binds (ps := ["chapters", "lines", "chain"]) fun _ _ _ _ _ _ us hl => match us, hl with | [_, _, _], _ => rfl,
      F_count_lists := F7,
      g_count_lists := PySem.W.mg_of X G a7,
      b_count_lists := F7.binds (ps := ["terms", "limit", "total"]) fun _ _ _ _ _ _ us hl => match us, hl with | [_, _, _], _ => rfl,
      F_multiply_ways := F8,
      g_multiply_ways := PySem.W.mg_of X G a8,
      b_multiply_ways := F8.binds (ps := ["chapters", "places"]) fun _ _ _ _ _ _ us hl => match us, hl with | [_, _], _ => rfl,
      F_count_fitting := F9,
      g_count_fitting := PySem.W.mg_of X G a9,
      b_count_fitting := F9.binds (ps := ["chapters", "lines", "chain"]) fun _ _ _ _ _ _ us hl => match us, hl with | [_, _, _], _ => rfl,
      F_contradiction := F10,
      g_contradiction := PySem.W.mg_of X G a10,
      b_contradiction := F10.binds (ps := ["chapters", "lines", "chain"]) fun _ _ _ _ _ _ us hl => match us, hl with | [_, _, _], _ => rfl,
      F__law_binomial := F11,
      g__law_binomial := PySem.W.mg_of X G a11,
      b__law_binomial := F11.binds (ps := ["many", "few"]) fun _ _ _ _ _ _ us hl => match us, hl with | [_, _], _ => rfl,
      F__law_added_right := F12,
      g__law_added_right := PySem.W.mg_of X G a12,
      b__law_added_right := F12.binds (ps := ["many", "total", "rows", "wide", "before"]) fun _ _ _ _ _ _ us hl => match us, hl with | [_, _, _, _, _], _ => rfl,
      F_law := F13,
      g_law := PySem.W.mg_of X G a13,
      b_law := F13.binds (ps := ["script"]) fun _ _ _ _ _ _ us hl => match us, hl with | [_], _ => rfl,
      z_abs := PySem.W.mg_none_of X G z0,
      z_enumerate := PySem.W.mg_none_of X G z1,
      z_int := PySem.W.mg_none_of X G z2,
      z_len := PySem.W.mg_none_of X G z3,
      z_max := PySem.W.mg_none_of X G z4,
      z_min := PySem.W.mg_none_of X G z5,
      z_range := PySem.W.mg_none_of X G z6,
      z_sum := PySem.W.mg_none_of X G z7,
      y_comb := PySem.W.mg_of X G y_comb }
  exact ⟨_, fun s v => .of_eq rfl, fun base _ _ => ok_law T⟩
end WK18
open PySem PySem.W PyProof.Rows
set_option maxHeartbeats 0 in
theorem PySem.Challenge.cw_pagecounts_k18_whole_page_counts_add_up_holds : PySem.Challenge.rw_pagecounts_k18_whole_page_counts_add_up.Holds := by
  w_on; o_law; k_head; (case hw => w_witness2)
  k_fill
  refine L2.walk_of (l := PySem.Challenge.rw_pagecounts_k18_whole_page_counts_add_up) (n := 63) (k := 5) (x := "script") (CX := fun _ => L2.CX0) (sp := fun w => WK18.sp_law _) rfl (by decide) rfl ⟨rfl, by decide, by decide⟩ (fun w h Y => PySem.W.kIn_of Y) ?F (fun _ _ a ns hl _ hS => ⟨a, ns, rfl, hS, hl, fun _ => rfl⟩) (fun _ _ _ _ _ h => h)
  case F =>
    intro w mg fa h KX G hmg
    refine' WK18.all_mk KX G hmg ?a0 ?l0 ?c0 ?k0 ?a1 ?l1 ?c1 ?k1 ?a2 ?l2 ?c2 ?k2 ?a3 ?l3 ?c3 ?k3 ?a4 ?l4 ?c4 ?k4 ?a5 ?l5 ?c5 ?k5 ?a6 ?l6 ?c6 ?k6 ?a7 ?l7 ?c7 ?k7 ?a8 ?l8 ?c8 ?k8 ?a9 ?l9 ?c9 ?k9 ?a10 ?l10 ?c10 ?k10 ?a11 ?l11 ?c11 ?k11 ?a12 ?l12 ?c12 ?k12 ?a13 ?l13 ?c13 ?k13 ?z0 ?z1 ?z2 ?z3 ?z4 ?z5 ?z6 ?z7 ?y_comb
    (case a0 => k_is); (case l0 => k_is); (case c0 => k_is); (case k0 => k_is); (case a1 => k_is); (case l1 => k_is); (case c1 => k_is); (case k1 => k_is); (case a2 => k_is); (case l2 => k_is); (case c2 => k_is); (case k2 => k_is); (case a3 => k_is); (case l3 => k_is); (case c3 => k_is); (case k3 => k_is); (case a4 => k_is); (case l4 => k_is); (case c4 => k_is); (case k4 => k_is); (case a5 => k_is); (case l5 => k_is); (case c5 => k_is); (case k5 => k_is); (case a6 => k_is); (case l6 => k_is); (case c6 => k_is); (case k6 => k_is); (case a7 => k_is); (case l7 => k_is); (case c7 => k_is); (case k7 => k_is); (case a8 => k_is); (case l8 => k_is); (case c8 => k_is); (case k8 => k_is); (case a9 => k_is); (case l9 => k_is); (case c9 => k_is); (case k9 => k_is); (case a10 => k_is); (case l10 => k_is); (case c10 => k_is); (case k10 => k_is); (case a11 => k_is); (case l11 => k_is); (case c11 => k_is); (case k11 => k_is); (case a12 => k_is); (case l12 => k_is); (case c12 => k_is); (case k12 => k_is); (case a13 => k_is); (case l13 => k_is); (case c13 => k_is); (case k13 => k_is); (case z0 => k_is); (case z1 => k_is); (case z2 => k_is); (case z3 => k_is); (case z4 => k_is); (case z5 => k_is); (case z6 => k_is); (case z7 => k_is); (case y_comb => k_is)

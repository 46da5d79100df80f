import PyProof.Rows.All
import Wide.All
import OpenK.AllK
import Wide.FinOn
import HandS.Evl
import HandS.GenList
import HandS.Walk
import HandS.WordsExc
import HandS.ForMost
import HandS.Wide
import HandS.Style
import HandS.ExcInit
import HandS.ExcIs
import HandS.ExcField
import HandS.IsInst
import HandS.Defaults
import HandS.Text
import HandS.FStr
import HandS.RaiseMore
import KE.KExcIs
import PyProof.ReprRoads
import PyProof.ReprBulk
import PyProof.FitsInt
import PySem.Challenge.RW_pagecounts_k40_texts_shown
set_option Elab.async false
set_option linter.all false
set_option maxRecDepth 100000
set_option maxHeartbeats 4000000
/-! Readings, step by step, from their heads (own lemmas over HandS). -/
namespace HS
open PySem PySem.Spec PyProof.Rows L2
section
variable {σ : L2.St} {H : Hp} {Q : VK} {t u : TS} {te ta tb tx : TE} {tt tv : TT} {n bk ct : L2.St → Hp → Prop} {rt : VK} {K : PySem.W.Frag}
theorem seq (h : t ⟨u ⟨n, rt, bk, ct⟩, rt, bk, ct⟩ σ H) : tSeq t u ⟨n, rt, bk, ct⟩ σ H := h
theorem nxt (h : n σ H) : tNext ⟨n, rt, bk, ct⟩ σ H := h
theorem brk (h : bk σ H) : tBreak ⟨n, rt, bk, ct⟩ σ H := h
theorem cnt (h : ct σ H) : tCont ⟨n, rt, bk, ct⟩ σ H := h
theorem asg {g : TG} (h : te σ H fun x H1 => g x σ H1 n) : tAsg te g ⟨n, rt, bk, ct⟩ σ H := h
theorem nm {v : V} {i : Nat} {q : L2.St → Hp → Prop} (h : q (σ.set i (some v)) H) : gName i v σ H q := h
theorem sub {to ti : TE} {ts : TSet} {v : V} {q : L2.St → Hp → Prop} (h : to σ H fun o H1 => ti σ H1 fun i H2 => ts o i v H2 fun H3 => q σ H3) : gSub to ti ts v σ H q := h
theorem var {i : Nat} {v : V} (h : σ[i]? = some (some v)) (q : Q v H) : tVar i σ H Q := ⟨v, h, q⟩
theorem cst {v : V} (q : Q v H) : tC v σ H Q := q
theorem op {r : R2} (h : ta σ H fun x H1 => tb σ H1 fun y H2 => r x y H2 Q) : tOp r ta tb σ H Q := h
theorem un {r : V → Hp → VK → Prop} (h : ta σ H fun x H1 => r x H1 Q) : tUn r ta σ H Q := h
theorem i0 {g : Int → Int → V} {i j : Int} (q : Q (g i j) H) : rI0 g (.int i) (.int j) H Q := ⟨i, j, rfl, rfl, q⟩
theorem i1 {C : Int → Int → Prop} {g : Int → Int → V} {i j : Int} (q : C i j ∧ Q (g i j) H) : rI C g (.int i) (.int j) H Q := ⟨i, j, rfl, rfl, q⟩
theorem u0 {g : Int → V} {i : Int} (q : Q (g i) H) : rU g (.int i) H Q := ⟨i, rfl, q⟩
theorem eqI {i j : Int} (q : Q (.bl (decide (i = j))) H) : rEq (.int i) (.int j) H Q := ⟨rfl, by
  have e : decide ((V.int i) = V.int j) = decide (i = j) := by
    by_cases h : i = j
    · rw [h]; simp
    · have h2 : ¬ (V.int i = V.int j) := fun z => h (V.int.inj z)
      rw [decide_eq_false h, decide_eq_false h2]
  rw [e]; exact q⟩
theorem neI {i j : Int} (q : Q (.bl (!decide (i = j))) H) : rNe (.int i) (.int j) H Q := ⟨rfl, by
  have e : decide ((V.int i) = V.int j) = decide (i = j) := by
    by_cases h : i = j
    · rw [h]; simp
    · have h2 : ¬ (V.int i = V.int j) := fun z => h (V.int.inj z)
      rw [decide_eq_false h, decide_eq_false h2]
  rw [e]; exact q⟩
theorem tst {q : Bool → Hp → Prop} (h : te σ H fun x H' => ∃ k, x = .bl k ∧ q k H') : tTest te σ H q := h
theorem tb1 {q : Bool → Hp → Prop} (h : te σ H fun x H' => ∃ k, x = .bl k ∧ q k H') : tB te σ H q := h
theorem bex {b : Bool} {q : Bool → Prop} (h : q b) : ∃ k, V.bl b = V.bl k ∧ q k := ⟨b, rfl, h⟩
theorem ifs (h : tt σ H fun b H1 => if b = true then t ⟨n, rt, bk, ct⟩ σ H1 else u ⟨n, rt, bk, ct⟩ σ H1) : tIfS tt t u ⟨n, rt, bk, ct⟩ σ H := h
theorem ife (h : tt σ H fun b H1 => if b = true then ta σ H1 Q else tb σ H1 Q) : tIf tt ta tb σ H Q := h
theorem and {q : Bool → Hp → Prop} (h : tt σ H fun c H1 => if c = true then tv σ H1 q else q false H1) : tAnd tt tv σ H q := h
theorem or {q : Bool → Hp → Prop} (h : tt σ H fun c H1 => if c = true then q true H1 else tv σ H1 q) : tOr tt tv σ H q := h
theorem not {q : Bool → Hp → Prop} (h : tt σ H fun c H1 => q (!c) H1) : tNot tt σ H q := h
theorem andV (h : ta σ H fun x H1 => ∃ c, x = .bl c ∧ if c = true then tb σ H1 Q else Q (.bl false) H1) : tAndV ta tb σ H Q := h
theorem orV (h : ta σ H fun x H1 => ∃ c, x = .bl c ∧ if c = true then Q (.bl true) H1 else tb σ H1 Q) : tOrV ta tb σ H Q := h
theorem notV (h : ta σ H fun x H1 => ∃ c, x = .bl c ∧ Q (.bl (!c)) H1) : tNotV ta σ H Q := h
theorem chn {r r' : R2} {tc : TE} (h : ta σ H fun x H1 => tb σ H1 fun y H2 => r x y H2 fun z H3 => ∃ k, z = .bl k ∧ if k = true then tc σ H3 fun w H4 => r' y w H4 Q else Q (.bl false) H3) : tChain r r' ta tb tc σ H Q := h
theorem ret (h : te σ H rt) : tRet te ⟨n, rt, bk, ct⟩ σ H := h
theorem retN (h : rt .non H) : tRetN ⟨n, rt, bk, ct⟩ σ H := h
theorem drp (h : te σ H fun _ H1 => n σ H1) : tDrop te ⟨n, rt, bk, ct⟩ σ H := h
theorem cb {r : List V → Hp → VK → Prop} {tl : TA} (h : tl σ H fun vs H1 => r vs H1 Q) : tCB r tl σ H Q := h
theorem anil {q : List V → Hp → Prop} (h : q [] H) : tNil σ H q := h
theorem acons {tl : TA} {q : List V → Hp → Prop} (h : te σ H fun x H1 => tl σ H1 fun xs H2 => q (x :: xs) H2) : tCons te tl σ H q := h
theorem cal {sp : Sp} {E : XK} {tl : TA} (h : tl σ H fun vs H1 => sp vs H1 Q E) : tCall sp [] E tl σ H Q := by
  show tl σ H fun vs H1 => sp (vs ++ []) H1 Q E
  simp only [List.append_nil]; exact h
theorem tup {tl : TA} (h : tl σ H fun xs H1 => xs.length ≤ sizeLine ∧ ∀ p, H1 p = none → Q (.ref p) (upd H1 p (.tup xs))) : tTup tl σ H Q := h
theorem lst {tl : TA} (h : tl σ H fun xs H1 => xs.length ≤ sizeLine ∧ ∀ p, H1 p = none → Q (.ref p) (upd H1 p (.lst xs))) : tLst tl σ H Q := h
theorem par {i j : Nat} {tl : TA} (h : tl σ H fun vs H1 => ∃ v w, vs = [v, w] ∧ n ((σ.set i (some v)).set j (some w)) H1) : tPar i j tl ⟨n, rt, bk, ct⟩ σ H := h
theorem ex2 {v w : V} {q : V → V → Prop} (h : q v w) : ∃ a b, [v, w] = [a, b] ∧ q a b := ⟨v, w, rfl, h⟩
theorem aug {i : Nat} {ti : TIp} {x : V} (e : σ[i]? = some (some x)) (h : te σ H fun y H1 => ti x y H1 fun z H2 => n (σ.set i (some z)) H2) : tAug i te ti ⟨n, rt, bk, ct⟩ σ H := ⟨x, e, h⟩
theorem ipi {f : Int → Int → Int} {i j : Int} (q : Q (.int (f i j)) H) : ipI f (.int i) (.int j) H Q := ⟨i, j, rfl, rfl, q⟩
theorem addI {i j : Int} (q : Q (.int (i + j)) H) : rAdd (.int i) (.int j) H Q := ⟨i, j, rfl, rfl, q⟩
theorem ixL {p : Addr} {xs : List V} {i : Int} {v : V} (h : SqL K H p xs) (e : atI xs i = some v) (q : Q v H) : rIxL K (.ref p) (.int i) H Q := ⟨p, xs, i, v, rfl, rfl, h, e, q⟩
theorem ixT {p : Addr} {xs : List V} {i : Int} {v : V} (h : SqT K H p xs) (e : atI xs i = some v) (q : Q v H) : rIxT K (.ref p) (.int i) H Q := ⟨p, xs, i, v, rfl, rfl, h, e, q⟩
/-- an if over a decided thing -/
theorem itd {c A B : Prop} [Decidable c] (h1 : c → A) (h2 : ¬ c → B) : if decide c = true then A else B := by
  by_cases h : c
  · rw [decide_eq_true h, if_pos rfl]; exact h1 h
  · rw [decide_eq_false h, if_neg Bool.false_ne_true]; exact h2 h
theorem itn {c A B : Prop} [Decidable c] (h1 : ¬ c → A) (h2 : c → B) : if (!decide c) = true then A else B := by
  by_cases h : c
  · rw [decide_eq_true h]; exact iteF (h2 h)
  · rw [decide_eq_false h]; exact iteT (h1 h)
theorem it1 {c A B : Prop} [Decidable c] (hc : c) (h : A) : if decide c = true then A else B := itd (fun _ => h) fun z => absurd hc z
theorem it0 {c A B : Prop} [Decidable c] (hc : ¬ c) (h : B) : if decide c = true then A else B := itd (fun z => absurd z hc) fun _ => h
theorem in1 {c A B : Prop} [Decidable c] (hc : ¬ c) (h : A) : if (!decide c) = true then A else B := itn (fun _ => h) fun z => absurd z hc
theorem in0 {c A B : Prop} [Decidable c] (hc : c) (h : B) : if (!decide c) = true then A else B := itn (fun z => absurd hc z) fun _ => h
end
/-! ### heaps: all but S stands -/
def Keep (S : Addr → Prop) (H H' : Hp) : Prop := ∀ a o, H a = some o → ¬ S a → H' a = some o
section
variable {S : Addr → Prop} {H H1 H2 : Hp} {p q : Addr} {o u : HO}
theorem Keep.refl : Keep S H H := fun _ _ h _ => h
theorem Keep.trans (a : Keep S H H1) (b : Keep S H1 H2) : Keep S H H2 := fun x o h n => b x o (a x o h n) n
theorem Keep.new (h : H p = none) : Keep S H (upd H p o) := fun a u e _ => by rw [upd_ne (ne_of_none e h)]; exact e
theorem Keep.put (k : Keep S H H1) (h : H p = none) : Keep S H (upd H1 p o) := fun a u e n => by rw [upd_ne (ne_of_none e h)]; exact k a u e n
theorem Keep.at (k : Keep S H H1) (h : S p) : Keep S H (upd H1 p o) := fun a u e n => by rw [upd_ne (fun z => n (by rw [z]; exact h))]; exact k a u e n
theorem Keep.free (k : Keep S H H1) (h : H1 p = none) (n : ¬ S p) : H p = none := by
  cases e : H p with
  | none => rfl
  | some o => have z := k p o e n; rw [h] at z; cases z
theorem Keep.sq {K : PySem.W.Frag} {xs : List V} (k : Keep S H H1) (h : SqL K H p xs) (n : ¬ S p) : SqL K H1 p xs := by
  rcases h with (h | ⟨o, h⟩) | h
  · exact .inl (.inl (k _ _ h n))
  · exact .inl (.inr ⟨o, k _ _ h n⟩)
  · exact .inr h
theorem Keep.st {K : PySem.W.Frag} {xs : List V} (k : Keep S H H1) (h : SqT K H p xs) (n : ¬ S p) : SqT K H1 p xs := by
  rcases h with (h | ⟨o, h⟩) | h
  · exact .inl (.inl (k _ _ h n))
  · exact .inl (.inr ⟨o, k _ _ h n⟩)
  · exact .inr h
theorem sq {K : PySem.W.Frag} {xs : List V} (h : H p = some (.lst xs)) : SqL K H p xs := .inl (.inl h)
theorem st {K : PySem.W.Frag} {xs : List V} (h : H p = some (.tup xs)) : SqT K H p xs := .inl (.inl h)
end
end HS
theorem hu64 {A : PySem.Around} {k : Nat} (hr : L2.Room k A) : A.units + 64 < PySem.cLine := hr.units
namespace HS
open PySem PySem.Spec PyProof.Rows L2
section
variable {σ : L2.St} {H : Hp} {Q : VK} {te ta tb tx : TE} {K : PySem.W.Frag} {X : Cx}
theorem sz {n : Nat} (h : n ≤ 100000) : n < sizeLine := Nat.lt_of_le_of_lt h (by decide)
theorem szl {n : Nat} (h : n ≤ 100000) : n ≤ sizeLine := Nat.le_of_lt (sz h)
theorem pe_fold {e : Expr} {t : TE} (z : Int) (h : PE X e t) (k : ∀ (σ : L2.St) (H : Hp) (Q : VK), Q (.int z) H → t σ H Q) : PE X e (tC (.int z)) :=
  ⟨fun pins s σ H Q I q => h.run pins s σ H Q I (k σ H Q q)⟩
theorem ii {a b : Int} {q : Int → Int → Prop} (h : q a b) : ∃ i j, [V.int a, V.int b] = [V.int i, V.int j] ∧ q i j := ⟨a, b, rfl, h⟩
theorem bmL {r : V → List V → Hp → VK → Prop} {tl : TA} (h : ta σ H fun x H1 => tyV K "list" x H1 ∧ tl σ H1 fun xs H2 => r x xs H2 Q) : tBM K "list" r ta tl σ H Q := h
theorem bmL0 {r : V → List V → Hp → VK → Prop} (h : ta σ H fun x H1 => tyV K "list" x H1 ∧ r x [] H1 Q) : tBM0 K "list" r ta σ H Q := h
theorem tyL {p : Addr} {xs : List V} {A : Prop} (h : H p = some (.lst xs)) (q : A) : tyV K "list" (.ref p) H ∧ A := ⟨.inl ⟨rfl, _, .inl (.inl h)⟩, q⟩
theorem app {l : Addr} {xs : List V} {y : V} (h : H l = some (.lst xs)) (q : xs.length < sizeLine ∧ Q .non (upd H l (.lst (xs ++ [y])))) : rAppend (.ref l) [y] H Q := ⟨l, xs, y, rfl, rfl, h, q⟩
theorem pop0 {l : Addr} {y : V} {ys : List V} (h : H l = some (.lst (y :: ys))) (q : Q y (upd H l (.lst ys))) : rPopAt (.ref l) [.int 0] H Q := ⟨l, y :: ys, 0, 0, y, rfl, rfl, h, by decide, by decide, by simp [seqIndex?], rfl, q⟩
theorem setL {p : Addr} {xs : List V} {k : Int} {j : Nat} {v : V} {q : Hp → Prop} (h : H p = some (.lst xs)) (e : ixN xs.length k = some j) (g : q (upd H p (.lst (xs.set j v)))) : rSetL (.ref p) (.int k) v H q := ⟨p, xs, _, j, rfl, rfl, h, e, g⟩
theorem mulW {i j : Int} (a b : Nat) (h0 : 0 ≤ i) (h1 : i < 2 ^ a) (g0 : 0 ≤ j) (g1 : j < 2 ^ b) (ha : 0 < a) (hb : 0 < b) (h : a + b ≤ 1000000) : CMulW i j := by
  refine wide_mul (a := a) (b := b) ?_ ?_ ha hb h
  · have : ((i.natAbs : Nat) : Int) < ((2 ^ a : Nat) : Int) := by rw [Int.natAbs_of_nonneg h0]; simpa using h1
    exact Int.ofNat_lt.mp this
  · have : ((j.natAbs : Nat) : Int) < ((2 ^ b : Nat) : Int) := by rw [Int.natAbs_of_nonneg g0]; simpa using g1
    exact Int.ofNat_lt.mp this
theorem divW {i j : Int} (b : Nat) (h : 0 < j) (h1 : j < 2 ^ b) (hb : 0 < b) (h9 : b ≤ 9000) : CDivW i j := by
  refine wide_div (b := b) h ?_ hb h9
  have : ((j.natAbs : Nat) : Int) < ((2 ^ b : Nat) : Int) := by rw [Int.natAbs_of_nonneg (by omega)]; simpa using h1
  exact Int.ofNat_lt.mp this
theorem get_int {ns : List Int} {i : Nat} {x : V} (hi : (ns.map V.int)[i]? = some x) : ∃ z, x = .int z ∧ ns[i]? = some z ∧ i < ns.length := by
  rw [List.getElem?_map] at hi
  cases e : ns[i]? with
  | none => rw [e] at hi; cases hi
  | some z => rw [e] at hi; exact ⟨z, (Option.some.inj hi).symm, rfl, (List.getElem?_eq_some_iff.mp e).1⟩
end
end HS
namespace HS
open PySem PySem.Spec PyProof.Rows L2
theorem Keep.new' {S : Addr → Prop} {H H0 H1 : Hp} {p : Addr} {o : HO} (h : H0 p = none) (k0 : Keep S H H0) (n : ¬ S p) (k : Keep S H H1) : Keep S H (upd H1 p o) := k.put (k0.free h n)
theorem nS2 {p a b : Addr} (h1 : p ≠ a) (h2 : p ≠ b) : ¬ (p = a ∨ p = b) := fun z => z.elim h1 h2
theorem nS3 {p a b c : Addr} (h1 : p ≠ a) (h2 : p ≠ b) (h3 : p ≠ c) : ¬ (p = a ∨ p = b ∨ p = c) := fun z => z.elim h1 fun z => z.elim h2 h3
end HS
namespace HS
open PySem PySem.Spec PyProof.Rows L2
section
variable {σ : L2.St} {H : Hp} {t u : TS} {n bk ct : L2.St → Hp → Prop} {rt : VK}
theorem pnx (h : n σ H) : Ends.nx ⟨n, rt, bk, ct⟩ σ H := h
theorem pbk (h : bk σ H) : Ends.bk ⟨n, rt, bk, ct⟩ σ H := h
theorem pct (h : ct σ H) : Ends.ct ⟨n, rt, bk, ct⟩ σ H := h
theorem prt {v : V} (h : rt v H) : Ends.rt ⟨n, rt, bk, ct⟩ v H := h
theorem cut (M : L2.St → Hp → Prop) (h : t ⟨M, rt, bk, ct⟩ σ H) (k : ∀ σ' H', M σ' H' → u ⟨n, rt, bk, ct⟩ σ' H') : Evl.tCut t u ⟨n, rt, bk, ct⟩ σ H := ⟨M, h, k⟩
theorem pow_lt {i : Int} {a : Nat} (k : Nat) (h0 : 0 ≤ i) (h : i < 2 ^ a) : 0 ≤ i ^ k ∧ (i ^ k < 2 ^ (a * k) ∨ k = 0) := by
  refine ⟨Int.pow_nonneg h0, ?_⟩
  cases k with
  | zero => exact .inr rfl
  | succ k =>
    refine .inl ?_
    obtain ⟨m, rfl⟩ := Int.eq_ofNat_of_zero_le h0
    have h' : m < 2 ^ a := by have : ((m : Nat) : Int) < ((2 ^ a : Nat) : Int) := by simpa using h
                              exact Int.ofNat_lt.mp this
    have := Nat.pow_lt_pow_left h' (Nat.succ_ne_zero k)
    rw [← Nat.pow_mul] at this
    have z : ((m ^ (k + 1) : Nat) : Int) < ((2 ^ (a * (k + 1)) : Nat) : Int) := Int.ofNat_lt.mpr this
    simpa using z
end
end HS
namespace HS
open PySem PySem.Spec PyProof.Rows L2
section
variable {σ : L2.St} {H : Hp} {Q : VK} {ta tb te : TE} {K : PySem.W.Frag}
theorem szc {n : Nat} {A : Prop} (h : n ≤ 100000) (q : A) : n ≤ sizeLine ∧ A := ⟨szl h, q⟩
theorem szd {n : Nat} {A : Prop} (h : n ≤ 100000) (q : A) : n < sizeLine ∧ A := ⟨sz h, q⟩
theorem wp {σ1 σ2 : L2.St} {vs : List Nat} {A : Prop} (e : wipe σ2 vs = wipe σ1 vs) (q : A) : wipe σ2 vs = wipe σ1 vs ∧ A := ⟨e, q⟩
theorem yes {q : Bool → Hp → Prop} (h : q true H) : tYes σ H q := h
theorem ixI {p : Addr} {i : Int} (ns : List Int) (h : SqL K H p (ns.map V.int)) (h0 : 0 ≤ i) (h1 : i < ns.length) (q : ∀ z, ns[i.toNat]? = some z → z ∈ ns → Q (.int z) H) : rIxL K (.ref p) (.int i) H Q := by
  have hi : i.toNat < ns.length := by omega
  have e : ns[i.toNat]? = some ns[i.toNat] := List.getElem?_eq_getElem hi
  refine ⟨p, ns.map V.int, i, .int ns[i.toNat], rfl, rfl, h, ?_, q _ e (List.getElem_mem hi)⟩
  exact at_of (j := i.toNat) (by omega) (by rw [List.getElem?_map, e]; rfl)
theorem ixV {p : Addr} {i : Int} {xs : List V} (h : SqL K H p xs) (h0 : 0 ≤ i) (h1 : i < xs.length) (q : ∀ v, xs[i.toNat]? = some v → v ∈ xs → Q v H) : rIxL K (.ref p) (.int i) H Q := by
  have hi : i.toNat < xs.length := by omega
  have e : xs[i.toNat]? = some xs[i.toNat] := List.getElem?_eq_getElem hi
  refine ⟨p, xs, i, xs[i.toNat], rfl, rfl, h, ?_, q _ e (List.getElem_mem hi)⟩
  exact at_of (j := i.toNat) (by omega) e
theorem ixVT {p : Addr} {i : Int} {xs : List V} (h : SqT K H p xs) (h0 : 0 ≤ i) (h1 : i < xs.length) (q : ∀ v, xs[i.toNat]? = some v → v ∈ xs → Q v H) : rIxT K (.ref p) (.int i) H Q := by
  have hi : i.toNat < xs.length := by omega
  have e : xs[i.toNat]? = some xs[i.toNat] := List.getElem?_eq_getElem hi
  refine ⟨p, xs, i, xs[i.toNat], rfl, rfl, h, ?_, q _ e (List.getElem_mem hi)⟩
  exact at_of (j := i.toNat) (by omega) e
theorem lc {wi : TI} {g : TG} {tt : TT} {vs : List Nat} (h : wi σ H fun J H1 => ∀ D, H1 D = none → ∃ W : Nat → Nat → Hp → Prop, (∃ m, W 0 m (upd H1 D (.lst []))) ∧ ∀ i m H, W i m H → (J.stop i H ∧ Q (.ref D) H) ∨ (J.go i H ∧ ∃ Nx : Hp → Prop, (∀ H', Nx H' → ∃ m', m' < m ∧ W (i + 1) m' H') ∧ ∀ x H', J.yld i H x H' → g x (wipe σ vs) H' fun σ2 H2 => wipe σ2 vs = wipe σ vs ∧ tt σ2 H2 fun b H3 => if b = true then te σ2 H3 fun y H4 => ∃ acc, H4 D = some (.lst acc) ∧ acc.length < sizeLine ∧ Nx (upd H4 D (.lst (acc ++ [y]))) else Nx H3)) : tLc wi g tt te vs σ H Q := h
theorem rng1 {tl : TA} {R : It → Hp → Prop} (h : tl σ H fun vs H1 => ∃ j : Int, vs = [.int j] ∧ -(2 ^ 62) ≤ j ∧ j < 2 ^ 62 ∧ R (Itr 0 j.toNat) H1) : iRng1 tl σ H R := h
theorem rng2 {tl : TA} {R : It → Hp → Prop} (h : tl σ H fun vs H1 => ∃ i j : Int, vs = [.int i, .int j] ∧ (-(2 ^ 62) ≤ i ∧ i < 2 ^ 62 ∧ -(2 ^ 62) ≤ j ∧ j < 2 ^ 62) ∧ R (Itr i (j - i).toNat) H1) : iRng2 tl σ H R := h
theorem lis {tl : TE} {R : It → Hp → Prop} (h : tl σ H fun x H1 => ∃ a, x = .ref a ∧ (∃ xs, SqL K H1 a xs) ∧ R (Itl K a) H1) : iList K tl σ H R := h
theorem ra {a : Addr} {q : Addr → Prop} (h : q a) : ∃ b, V.ref a = V.ref b ∧ q b := ⟨a, rfl, h⟩
theorem i1e {a : Int} {q : Int → Prop} (h : q a) : ∃ i, [V.int a] = [V.int i] ∧ q i := ⟨a, rfl, h⟩
theorem fr {wi : TI} {g : TG} {tb : TS} {D : Ends} (h : wi σ H fun J H1 => ∃ W : Nat → Nat → L2.St → Hp → Prop, (∃ m, W 0 m σ H1) ∧ ∀ i m σ H, W i m σ H →
    (J.stop i H ∧ D.nx σ H) ∨ (J.go i H ∧ ∃ N : L2.St → Hp → Prop, (∀ σ' H', N σ' H' → ∃ m', m' < m ∧ W (i + 1) m' σ' H') ∧ ∀ x H', J.yld i H x H' → g x σ H' fun σ2 H2 => tb { D with nx := N, ct := N, bk := D.nx } σ2 H2)) : tFor wi g tb D σ H := h
end
end HS
namespace HS
open PySem PySem.Spec PyProof.Rows L2
theorem iteM {c : Bool} {ta tb : TE} {σ : L2.St} {H1 : Hp} {Q : VK} (M : VK) (h : c = true → ∀ Q' : VK, (∀ v H', M v H' → Q' v H') → ta σ H1 Q') (g : c = false → ∀ Q' : VK, (∀ v H', M v H' → Q' v H') → tb σ H1 Q') (k : ∀ v H', M v H' → Q v H') :
    if c = true then ta σ H1 Q else tb σ H1 Q := by
  cases c with
  | true => rw [if_pos rfl]; exact h rfl Q k
  | false => rw [if_neg Bool.false_ne_true]; exact g rfl Q k
/-- ceilings -/
theorem ceil_eq {i j : Int} (hj : 1 ≤ j) : (i + j - 1) / j = i / j + (if 0 < i % j then 1 else 0) := by
  have h0 := Int.emod_nonneg i (by omega : j ≠ 0)
  have h1 := Int.emod_lt_of_pos i (by omega : 0 < j)
  have e := Int.mul_ediv_add_emod i j
  generalize i / j = q at e ⊢
  generalize i % j = r at e h0 h1 ⊢
  subst e
  split
  · rename_i h
    rw [show j * q + r + j - 1 = (r - 1) + j * (q + 1) by rw [Int.mul_add]; omega, Int.add_mul_ediv_left _ _ (by omega), Int.ediv_eq_zero_of_lt (by omega) (by omega)]
    omega
  · rename_i h
    rw [show j * q + r + j - 1 = (j - 1) + j * q by omega, Int.add_mul_ediv_left _ _ (by omega), Int.ediv_eq_zero_of_lt (by omega) (by omega)]
    omega
end HS
namespace HS
open PySem PySem.Spec PyProof.Rows L2
section
variable {σ : L2.St} {H : Hp} {te : TE} {t : TS} {tg ug : TGn} {n bk ct : List V → L2.St → Hp → Prop} {rt : List V → VK} {ys : List V} {Q : VK}
theorem gthen (h : tg ⟨fun ys' σ' H' => ug ⟨n, rt, bk, ct⟩ ys' σ' H', rt, bk, ct⟩ ys σ H) : tGThen tg ug ⟨n, rt, bk, ct⟩ ys σ H := h
theorem g0 (h : n ys σ H) : tG0 ⟨n, rt, bk, ct⟩ ys σ H := h
theorem gpl (h : t ⟨n ys, rt ys, bk ys, ct ys⟩ σ H) : tPlain t ⟨n, rt, bk, ct⟩ ys σ H := h
theorem gyl (h : ys.length < sizeLine ∧ te σ H fun x H1 => n (ys ++ [x]) σ H1) : tGYield te ⟨n, rt, bk, ct⟩ ys σ H := h
theorem lgn {tg : TGen} (h : tg σ H fun out H2 => ∀ p, H2 p = none → Q (.ref p) (upd H2 p (.lst out))) : tListG tg σ H Q := h
theorem calg {sp : SpG} {E : XK} {tl : TA} {q : List V → Hp → Prop} (h : tl σ H fun vs H1 => sp vs H1 q E) : tCallG sp [] E tl σ H q := by
  show tl σ H fun vs H1 => sp (vs ++ []) H1 q E
  simp only [List.append_nil]; exact h
end
end HS
namespace HS
open PySem PySem.Spec PyProof.Rows L2
section
variable {H : Hp} {Q : VK} {K : PySem.W.Frag}
theorem ixZ {p : Addr} {i z : Int} {ns : List Int} (h : SqL K H p (ns.map V.int)) (h0 : 0 ≤ i) (e : ns[i.toNat]? = some z) (q : Q (.int z) H) : rIxL K (.ref p) (.int i) H Q :=
  ⟨p, ns.map V.int, i, .int z, rfl, rfl, h, at_of (j := i.toNat) (by omega) (by rw [List.getElem?_map, e]; rfl), q⟩
theorem cut_to (xs : List V) (n : Nat) : cutV xs none (some (n : Int)) = xs.take n := by
  unfold cutV
  rw [HT.sIx_none, HT.sIx_nat, List.drop_zero, Nat.sub_zero]
  rw [List.take_eq_take_iff]
  omega
theorem cut_from (xs : List V) (n : Nat) : cutV xs (some (n : Int)) none = xs.drop n := by
  unfold cutV
  rw [HT.sIx_none, HT.sIx_nat]
  rw [List.take_of_length_le (by rw [List.length_drop]; omega)]
  by_cases h : n ≤ xs.length
  · rw [Nat.min_eq_left h]
  · rw [Nat.min_eq_right (by omega), List.drop_eq_nil_of_le (Nat.le_refl _), List.drop_eq_nil_of_le (by omega)]
end
end HS
namespace HS
open PySem PySem.Spec PyProof.Rows L2
theorem Keep.any {S : Addr → Prop} {H H1 : Hp} (k : Keep (fun _ => False) H H1) : Keep S H H1 := fun a o e _ => k a o e id
theorem Keep.mono {S T : Addr → Prop} {H H1 : Hp} (k : Keep S H H1) (h : ∀ a, S a → T a) : Keep T H H1 := fun a o e n => k a o e fun z => n (h a z)
end HS
namespace HS
open PySem PySem.Spec PyProof.Rows L2
theorem cut_toI {i : Int} (ls : List Int) (h : 0 ≤ i) : cutV (ls.map V.int) none (some i) = (ls.take i.toNat).map V.int := by
  obtain ⟨n, rfl⟩ := Int.eq_ofNat_of_zero_le h
  rw [cut_to, List.map_take]; simp
theorem cut_fromI {i : Int} (ls : List Int) (h : 0 ≤ i) : cutV (ls.map V.int) (some i) none = (ls.drop i.toNat).map V.int := by
  obtain ⟨n, rfl⟩ := Int.eq_ofNat_of_zero_le h
  rw [cut_from, List.map_drop]; simp
end HS
namespace HS
theorem ifT {c : Bool} {A B : Prop} (e : c = true) (h : A) : if c = true then A else B := by rw [if_pos e]; exact h
theorem ifF {c : Bool} {A B : Prop} (e : c = false) (h : B) : if c = true then A else B := by rw [if_neg (by rw [e]; exact Bool.false_ne_true)]; exact h
end HS
namespace HS
open PySem PySem.Spec PyProof.Rows L2
/-- a new object behind what stands -/
theorem Keep.nw {H H1 : Hp} {p : Addr} {o : HO} (k : Keep (fun _ => False) H H1) (h : H1 p = none) : Keep (fun _ => False) H (upd H1 p o) := k.put (k.free h id)
theorem Keep.nwS {S : Addr → Prop} {H H1 : Hp} {p : Addr} {o : HO} (k : Keep S H H1) (h : H1 p = none) (n : ¬ S p) : Keep S H (upd H1 p o) := k.put (k.free h n)
end HS
namespace HS
theorem nt {A B : Prop} (h : B) : if (!true) = true then A else B := by rw [if_neg (show ¬ ((!true) = true) from Bool.false_ne_true)]; exact h
theorem nf {A B : Prop} (h : A) : if (!false) = true then A else B := by rw [if_pos (show (!false) = true from rfl)]; exact h
end HS
namespace HS
open PySem PySem.Spec PyProof.Rows L2
section
variable {H H' : Hp} {p x : Addr} {o u : HO}
theorem upgs (e : upd H p o = H') : H' p = some o := by rw [← e]; exact upd_same
theorem upgK (e : upd H p o = H') (h : H p = none) : Keep (fun _ => False) H H' := by rw [← e]; exact Keep.new h
end
end HS
/-! Data of ints, lists and tuples, and == of such. -/
namespace HS
open PySem PySem.Spec PyProof.Rows L2
def dInts (ns : List Int) : PyData := .list (ns.map .int)
section
variable {K : PySem.W.Frag} {H : Hp}
theorem dpAll_ints : ∀ ns : List Int, DpAll K H (ns.map V.int) (ns.map .int)
  | [] => .nil
  | n :: r => .cons (.int n) (dpAll_ints r)
theorem dp_ints {a : Addr} {ns : List Int} (h : SqL K H a (ns.map V.int)) : Dp K H (.ref a) (dInts ns) := .lst h (dpAll_ints ns)
theorem lay_ints : ∀ ns : List Int, PyData.canLayAll0 (ns.map .int) = true
  | [] => rfl
  | n :: r => by rw [List.map_cons, PyData.canLayAll0, lay_ints r]; rfl
theorem dep_ints : ∀ ns : List Int, PyData.depthAll (ns.map .int) = 0
  | [] => rfl
  | n :: r => by rw [List.map_cons, PyData.depthAll, dep_ints r]; rfl
theorem sh_ints (ns : List Int) : SeqAt.shaped (dInts ns) = true := by
  unfold SeqAt.shaped dInts
  rw [PyData.canLay0, PyData.depth, lay_ints, dep_ints]; rfl
theorem eqv_int (i j : Int) : PyData.eqv (.int i) (.int j) = decide (i = j) := by
  rw [PyData.eqv]; exact Bool.beq_eq_decide_eq i j
theorem eqvAll_ints : ∀ xs ys : List Int, PyData.eqvAll (xs.map .int) (ys.map .int) = decide (xs = ys)
  | [], [] => rfl
  | [], y :: ys => rfl
  | x :: xs, [] => rfl
  | x :: xs, y :: ys => by
    rw [List.map_cons, List.map_cons, PyData.eqvAll, eqv_int, eqvAll_ints xs ys]
    by_cases h : x = y <;> by_cases g : xs = ys <;> simp [h, g]
theorem eqv_ints (xs ys : List Int) : PyData.eqv (dInts xs) (dInts ys) = decide (xs = ys) := by
  unfold dInts; rw [PyData.eqv]; exact eqvAll_ints xs ys
/-- == and != of two lists of ints -/
theorem eqL {a b : Addr} {xs ys : List Int} {Q : VK} (h1 : SqL K H a (xs.map V.int)) (h2 : SqL K H b (ys.map V.int)) (q : Q (.bl (decide (xs = ys))) H) : rEqD K (.ref a) (.ref b) H Q :=
  ⟨_, _, dp_ints h1, dp_ints h2, sh_ints _, sh_ints _, by rw [eqv_ints]; exact q⟩
theorem neL {a b : Addr} {xs ys : List Int} {Q : VK} (h1 : SqL K H a (xs.map V.int)) (h2 : SqL K H b (ys.map V.int)) (q : Q (.bl (!decide (xs = ys))) H) : rNeD K (.ref a) (.ref b) H Q :=
  ⟨_, _, dp_ints h1, dp_ints h2, sh_ints _, sh_ints _, by rw [eqv_ints]; exact q⟩
end
end HS
/-! Rules told with the written part K by its own letter. -/
namespace HS
open PySem PySem.Spec PyProof.Rows L2
section
variable {X : Cx} (K : PySem.W.Frag)
theorem ixl (h : X.K = K := by rfl) : IxR X (rIxL K) := h ▸ ix_list
theorem ixt (h : X.K = K := by rfl) : IxR X (rIxT K) := h ▸ ix_tup
theorem sll (h : X.K = K := by rfl) : SlR X (rSlL K) := h ▸ sl_list
theorem slt (h : X.K = K := by rfl) : SlR X (rSlT K) := h ▸ sl_tup
theorem kbm {E : Expr} {T : String} {r : V → List V → Hp → VK → Prop} {to : TE} {t : TA} (p : PE X E (tBM X.K T r to t)) (h : X.K = K := by rfl) : PE X E (tBM K T r to t) := h ▸ p
theorem kbm0 {E : Expr} {T : String} {r : V → List V → Hp → VK → Prop} {to : TE} (p : PE X E (tBM0 X.K T r to)) (h : X.K = K := by rfl) : PE X E (tBM0 K T r to) := h ▸ p
theorem kil {tg l : Expr} {tl : TE} (p : PI X tg l (iList X.K tl)) (h : X.K = K := by rfl) : PI X tg l (iList K tl) := h ▸ p
theorem kit {tg l : Expr} {tl : TE} (p : PI X tg l (iTup X.K tl)) (h : X.K = K := by rfl) : PI X tg l (iTup K tl) := h ▸ p
theorem kien {tg l : Expr} {tl : TA} (p : PI X tg l (iEnum X.K tl)) (h : X.K = K := by rfl) : PI X tg l (iEnum K tl) := h ▸ p
theorem kgt {tg : Expr} {n : Nat} {t : TGs} (p : PG X tg (gTup X.K n t)) (h : X.K = K := by rfl) : PG X tg (gTup K n t) := h ▸ p
theorem keq (hu : X.A.units + 64 < cLine) (h : X.K = K := by rfl) : OpR X (compareOp .Eq) (rEqD K) := h ▸ op_eqD hu
theorem kne (hu : X.A.units + 64 < cLine) (h : X.K = K := by rfl) : OpR X (compareOp .NotEq) (rNeD K) := h ▸ op_neD hu
theorem kin (h : X.K = K := by rfl) : OpR X (compareOp .In) (rIn K false) := h ▸ op_in_seq
theorem knin (h : X.K = K := by rfl) : OpR X (compareOp .NotIn) (rIn K true) := h ▸ op_notIn_seq
theorem kcatT (h : X.K = K := by rfl) : OpR X (binaryOp .Add) (rCatT K) := h ▸ op_catT
def rLen : List V → Hp → VK → Prop := fun xs H Q => ∃ p ys, xs = [.ref p] ∧ (SqL K H p ys ∨ SqT K H p ys) ∧ Q (.int ys.length) H
def rLst : List V → Hp → VK → Prop := fun xs H Q => ∃ p ys, xs = [.ref p] ∧ (SqL K H p ys ∨ SqT K H p ys) ∧ ∀ l, H l = none → Q (.ref l) (upd H l (.lst ys))
theorem klen (h : X.K = K := by rfl) : CallR X (.builtin "len") (rLen K) := h ▸ call_len_seq
theorem klst (h : X.K = K := by rfl) : CallR X (.type "list") (rLst K) := h ▸ call_list_of
theorem ksum (hc : X.calm = true) (h : X.K = K := by rfl) : CallR X (.builtin "sum") (rSum K) := h ▸ cr_sum hc
theorem kmax (hc : X.calm = true) (h : X.K = K := by rfl) : CallR X (.builtin "max") (rMax K) := h ▸ cr_max hc
theorem kmin (hc : X.calm = true) (h : X.K = K := by rfl) : CallR X (.builtin "min") (rMin K) := h ▸ cr_min hc
theorem krev {E : Expr} {te : TE} (p : PE X E (tRevL X.K te)) (h : X.K = K := by rfl) : PE X E (tRevL K te) := h ▸ p
/-- the names of a block within a block -/
def relab (scO sc : Scope) : Scope := { scO with names := scO.names.map fun (n, k) => if (k == .free && sc.kind == .function && sc.names.lookup n == some .cell) then (n, .cell) else (n, k) }
/-- a list comprehension within a comprehension's block -/
theorem pe_lcIn {X : Cx} {s0 : Shared} {H0 : Hp} {C0 : Addr} {cl0 : List (Str × Addr)} {fp0 : List Addr} {scO : Scope} {elt tg iter : Expr} {ifs : List Expr} {scope : Scope} {own : List (Str × Nat)} {pos : Pos} {wi : TI} {g : TG} {tt : TT} {te : TE} (hc : X.calm = true) (hN : X.N.Nodup) (hi : PI (X.blk s0 H0 scO (compEnvC scO cl0 C0 X.env) fp0) tg iter wi) (sc : Scope) (hsc : X.env.scope = sc) (ok : BlkOk X.N (relab scO sc) scope own)
    (hg : ∀ (s : Shared) (H : Hp) (C : Addr) (cl : List (Str × Addr)) (fp : List Addr), PG ((X.blk s0 H0 scO (compEnvC scO cl0 C0 X.env) fp0).blk s H scope (compEnvC scope cl C (compEnvC scO cl0 C0 X.env)) fp) tg g) (ht : ∀ (s : Shared) (H : Hp) (C : Addr) (cl : List (Str × Addr)) (fp : List Addr), PTs ((X.blk s0 H0 scO (compEnvC scO cl0 C0 X.env) fp0).blk s H scope (compEnvC scope cl C (compEnvC scO cl0 C0 X.env)) fp) ifs tt)
    (he : ∀ (s : Shared) (H : Hp) (C : Addr) (cl : List (Str × Addr)) (fp : List Addr), PE ((X.blk s0 H0 scO (compEnvC scO cl0 C0 X.env) fp0).blk s H scope (compEnvC scope cl C (compEnvC scO cl0 C0 X.env)) fp) elt te) (hs : ∀ x, foldedSetIterable iter (compEnvC scO cl0 C0 X.env) x = pure x := by intro _; rfl) :
    PE (X.blk s0 H0 scO (compEnvC scO cl0 C0 X.env) fp0) (.ListComp elt [⟨tg, iter, ifs, 0⟩] scope pos) (tLc wi g tt te (own.map (·.2))) :=
  by subst hsc; exact pe_lc (X := X.blk s0 H0 scO (compEnvC scO cl0 C0 X.env) fp0) hc hN hi ok hg ht he hs
end
section
variable {σ : L2.St} {H : Hp} {Q : VK} {te : TE} {K : PySem.W.Frag}
theorem lenL {p : Addr} {ys : List V} (h : SqL K H p ys) (q : Q (.int ys.length) H) : rLen K [.ref p] H Q := ⟨p, ys, rfl, .inl h, q⟩
theorem lenT {p : Addr} {ys : List V} (h : SqT K H p ys) (q : Q (.int ys.length) H) : rLen K [.ref p] H Q := ⟨p, ys, rfl, .inr h, q⟩
theorem sumL {p : Addr} {ns : List Int} (h : SqL K H p (ns.map V.int)) (q : Q (.int ns.sum) H) : rSum K [.ref p] H Q := ⟨p, ns, rfl, h, q⟩
theorem revL (h : te σ H fun x H1 => ∃ a xs, x = .ref a ∧ SqL K H1 a xs ∧ ∀ p, H1 p = none → Q (.ref p) (upd H1 p (.lst xs.reverse))) : tRevL K te σ H Q := h
theorem sl {r : V → Option Int → Option Int → Hp → VK → Prop} {tl th : TO} (h : te σ H fun x H1 => tl σ H1 fun l H2 => th σ H2 fun u H3 => r x l u H3 Q) : tSl r te tl th σ H Q := h
theorem noP {q : Option Int → Hp → Prop} (h : q none H) : tNoPart σ H q := h
theorem part {q : Option Int → Hp → Prop} (h : te σ H fun x H1 => ∃ i, x = .int i ∧ q (some i) H1) : tPart te σ H q := h
theorem ie {a : Int} {q : Int → Prop} (h : q a) : ∃ i, V.int a = V.int i ∧ q i := ⟨a, rfl, h⟩
theorem slLs {p : Addr} {xs : List V} {lo hi : Option Int} (h : SqL K H p xs) (q : ∀ p, H p = none → Q (.ref p) (upd H p (.lst (cutV xs lo hi)))) : rSlL K (.ref p) lo hi H Q := ⟨p, xs, rfl, h, q⟩
theorem gtup {n : Nat} {t : TGs} {a : Addr} {xs : List V} {q : L2.St → Hp → Prop} (h : SqT K H a xs) (e : xs.length = n) (k : t xs σ H q) : gTup K n t (.ref a) σ H q := ⟨a, xs, rfl, h, e, k⟩
theorem gcons {t : TG} {u : TGs} {v : V} {r : List V} {q : L2.St → Hp → Prop} (h : t v σ H fun σ' H' => u r σ' H' q) : gCons t u (v :: r) σ H q := ⟨v, r, rfl, h⟩
theorem gnil {q : L2.St → Hp → Prop} (h : q σ H) : gNil [] σ H q := ⟨rfl, h⟩
theorem itup {R : It → Hp → Prop} (h : te σ H fun x H1 => ∃ a, x = .ref a ∧ (∃ xs, SqT K H1 a xs) ∧ R (Itt K a) H1) : iTup K te σ H R := h
theorem ienu {tl : TA} {R : It → Hp → Prop} (h : tl σ H fun vs H1 => ∃ a xs, vs = [.ref a] ∧ SqL K H1 a xs ∧ R (Ite K a) H1) : iEnum K tl σ H R := h
theorem cat {l b : Addr} {xs zs : List V} (h1 : H l = some (.lst xs)) (h2 : H b = some (.lst zs)) (q : xs.length + zs.length ≤ sizeLine ∧ ∀ p, H p = none → Q (.ref p) (upd H p (.lst (xs ++ zs)))) : rCat (.ref l) (.ref b) H Q := ⟨l, b, xs, zs, rfl, rfl, h1, h2, q⟩
theorem ext {l b : Addr} {xs zs : List V} (h1 : H l = some (.lst xs)) (h2 : H b = some (.lst zs)) (q : xs.length + zs.length ≤ sizeLine ∧ Q .non (upd H l (.lst (xs ++ zs)))) : rExtend (.ref l) [.ref b] H Q := ⟨l, b, xs, zs, rfl, rfl, h1, h2, q⟩
end
end HS
/-! Lists of new pairs of ints, and == of such; ranges by steps. -/
namespace HS
open PySem PySem.Spec PyProof.Rows L2
/-- the refs of vs are tuples of these pairs -/
def Prs (H : Hp) : List V → List (Int × Int) → Prop
  | [], [] => True
  | v :: vs, p :: ps => (∃ t, v = .ref t ∧ H t = some (.tup [.int p.1, .int p.2])) ∧ Prs H vs ps
  | _, _ => False
theorem Prs.keep {S : Addr → Prop} {H H' : Hp} (k : Keep S H H') : ∀ {vs : List V} {ps : List (Int × Int)}, Prs H vs ps → (∀ v ∈ vs, ∀ t, v = .ref t → ¬ S t) → Prs H' vs ps
  | [], [], h, _ => h
  | _ :: _, _ :: _, ⟨⟨t, e, o⟩, h⟩, n => ⟨⟨t, e, k t _ o (n _ List.mem_cons_self t e)⟩, h.keep k fun v hv => n v (List.mem_cons_of_mem _ hv)⟩
theorem Prs.app {H : Hp} : ∀ {vs ws : List V} {ps qs : List (Int × Int)}, Prs H vs ps → Prs H ws qs → Prs H (vs ++ ws) (ps ++ qs)
  | [], _, [], _, _, g => g
  | _ :: _, _, _ :: _, _, ⟨a, h⟩, g => ⟨a, h.app g⟩
theorem Prs.len {H : Hp} : ∀ {vs : List V} {ps : List (Int × Int)}, Prs H vs ps → vs.length = ps.length
  | [], [], _ => rfl
  | _ :: _, _ :: _, ⟨_, h⟩ => by rw [List.length_cons, List.length_cons, h.len]
def dPr (p : Int × Int) : PyData := .tuple [.int p.1, .int p.2]
def dPrs (ps : List (Int × Int)) : PyData := .list (ps.map dPr)
section
variable {K : PySem.W.Frag} {H : Hp}
theorem dpAll_prs : ∀ {vs : List V} {ps : List (Int × Int)}, Prs H vs ps → DpAll K H vs (ps.map dPr)
  | [], [], _ => .nil
  | _ :: _, p :: _, ⟨⟨t, e, o⟩, h⟩ => .cons (by rw [e]; exact .tup (st o) (.cons (.int p.1) (.cons (.int p.2) .nil))) (dpAll_prs h)
theorem lay_prs : ∀ ps : List (Int × Int), PyData.canLayAll0 (ps.map dPr) = true
  | [] => rfl
  | p :: r => by rw [List.map_cons, PyData.canLayAll0, lay_prs r]; rfl
theorem dep_prs : ∀ ps : List (Int × Int), PyData.depthAll (ps.map dPr) ≤ 2
  | [] => by simp [PyData.depthAll]
  | p :: r => by
    have h := dep_prs r
    have h2 : (dPr p).depth ≤ 2 := by simp [dPr, PyData.depth, PyData.depthAll]
    rw [List.map_cons, PyData.depthAll]; omega
theorem sh_prs (ps : List (Int × Int)) : SeqAt.shaped (dPrs ps) = true := by
  have h1 := dep_prs ps
  have h2 : PyData.depth (dPrs ps) ≤ 64 := by unfold dPrs; rw [PyData.depth]; omega
  show (PyData.canLay0 (dPrs ps) && decide (PyData.depth (dPrs ps) ≤ 64)) = true
  rw [Bool.and_eq_true]
  exact ⟨by unfold dPrs; rw [PyData.canLay0]; exact lay_prs ps, decide_eq_true h2⟩
theorem eqv_pr (p q : Int × Int) : PyData.eqv (dPr p) (dPr q) = decide (p = q) := by
  unfold dPr
  rw [PyData.eqv, PyData.eqvAll, PyData.eqvAll, PyData.eqvAll, eqv_int, eqv_int]
  obtain ⟨a, b⟩ := p
  obtain ⟨c, d⟩ := q
  by_cases h : a = c <;> by_cases g : b = d <;> simp [h, g]
theorem eqvAll_prs : ∀ xs ys : List (Int × Int), PyData.eqvAll (xs.map dPr) (ys.map dPr) = decide (xs = ys)
  | [], [] => rfl
  | [], y :: ys => rfl
  | x :: xs, [] => rfl
  | x :: xs, y :: ys => by
    rw [List.map_cons, List.map_cons, PyData.eqvAll, eqv_pr, eqvAll_prs xs ys]
    by_cases h : x = y <;> by_cases g : xs = ys <;> simp [h, g]
/-- == of two lists of pairs of ints -/
theorem eqP {a b : Addr} {vs ws : List V} {xs ys : List (Int × Int)} {Q : VK} (h1 : SqL K H a vs) (g1 : Prs H vs xs) (h2 : SqL K H b ws) (g2 : Prs H ws ys) (q : Q (.bl (decide (xs = ys))) H) : rEqD K (.ref a) (.ref b) H Q := by
  refine ⟨dPrs xs, dPrs ys, .lst h1 (dpAll_prs g1), .lst h2 (dpAll_prs g2), sh_prs _, sh_prs _, ?_⟩
  rw [show PyData.eqv (dPrs xs) (dPrs ys) = decide (xs = ys) by unfold dPrs; rw [PyData.eqv]; exact eqvAll_prs xs ys]
  exact q
end
theorem RgC.up {j c : Int} (hc : 1 ≤ c) (hc2 : c < 2 ^ 30) (h0 : 0 ≤ j) (h1 : j < 2 ^ 61) : RgC 0 j c ((j + c - 1) / c).toNat := by
  have hn : 0 ≤ (j + c - 1) / c := Int.ediv_nonneg (by omega) (by omega)
  have e : Builtin.Range.rangeSize 0 j c = (j + c - 1) / c := by
    unfold Builtin.Range.rangeSize
    rw [if_pos (by omega)]
    split
    · rw [show j + c - 1 = (j - 0 - 1) + c * 1 by omega, Int.add_mul_ediv_left _ _ (by omega)]
    · rw [show j = 0 by omega, Int.ediv_eq_zero_of_lt (by omega) (by omega)]
  have hl : (j + c - 1) / c ≤ j + c := Int.le_trans (Int.ediv_le_self _ (by omega)) (by omega)
  refine ⟨by omega, by omega, ?_, by rw [e]; omega⟩
  unfold Builtin.Range.small
  rw [e]
  simp only [Builtin.Range.rangeFitsLong, Bool.and_eq_true, Bool.or_eq_true, decide_eq_true_eq, beq_iff_eq]
  rw [if_pos (show c > 0 by omega)]
  simp only [Bool.and_eq_true, decide_eq_true_eq]
  omega
end HS
namespace HS
open PySem PySem.Spec PyProof.Rows L2
section
variable {σ : L2.St} {H : Hp}
theorem rng3 {tl : TA} {R : It → Hp → Prop} (h : tl σ H fun vs H1 => ∃ (i j c : Int) (n : Nat), vs = [.int i, .int j, .int c] ∧ RgC i j c n ∧ R (Itc i c n) H1) : iRng3 tl σ H R := h
end
end HS
namespace HS
open PySem PySem.Spec PyProof.Rows L2
theorem Prs.new {H : Hp} {p : Addr} {o : HO} (hp : H p = none) {vs : List V} {ps : List (Int × Int)} (h : Prs H vs ps) : Prs (upd H p o) vs ps :=
  h.keep (S := fun _ => False) (Keep.new hp) fun _ _ _ _ z => z
theorem Prs.same {H H' : Hp} {vs : List V} {ps : List (Int × Int)} (h : Prs H vs ps) (k : Keep (fun _ => False) H H') : Prs H' vs ps :=
  h.keep (S := fun _ => False) k fun _ _ _ _ z => z
theorem Prs.lst {H : Hp} {L : Addr} {ws : List V} (hL : H L = some (.lst ws)) : ∀ {vs : List V} {ps : List (Int × Int)}, Prs H vs ps → ∀ v ∈ vs, ∀ t, v = .ref t → t ≠ L
  | [], [], _, _, hv, _, _ => absurd hv List.not_mem_nil
  | _ :: _, _ :: _, ⟨⟨t', e', o'⟩, h⟩, v, hv, t, e => by
    rcases List.mem_cons.mp hv with hv | hv
    · subst hv
      rw [e'] at e
      have := V.ref.inj e
      subst this
      intro z
      rw [z, hL] at o'
      cases o'
    · exact h.lst hL v hv t e
theorem Prs.put {H : Hp} {L : Addr} {ws : List V} {o : HO} (hL : H L = some (.lst ws)) {vs : List V} {ps : List (Int × Int)} (h : Prs H vs ps) : Prs (upd H L o) vs ps :=
  h.keep (S := fun a => a = L) (Keep.at Keep.refl rfl) (h.lst hL)
theorem Prs.snoc {H : Hp} {vs : List V} {ps : List (Int × Int)} {t : Addr} {a b : Int} (h : Prs H vs ps) (e : H t = some (.tup [.int a, .int b])) : Prs H (vs ++ [.ref t]) (ps ++ [(a, b)]) :=
  h.app ⟨⟨t, rfl, e⟩, trivial⟩
end HS
/-! Exceptions of own classes as values: made, asked, read (own rules over HandS). -/
namespace HS
open PySem PySem.Spec PyProof.Rows L2
/-- the j-th row of a class's block -/
def inS (s : Stmt) (j : Nat) : Stmt := match s with
  | .ClassDef _ _ _ body _ _ _ _ _ _ _ => body.getD j (.Pass ⟨0, 0, 0, 0⟩)
  | s => s
/-- an own exception that stands in the heap, with its fields -/
def Exv (H : Hp) (a C : Addr) (fs : List (Str × V)) : Prop := ∃ d, H a = some (exo a C (some d)) ∧ H d = some (exd d fs)
def rIsV (K : PySem.W.Frag) : List V → Hp → VK → Prop := fun xs H Q => ∃ (a D : Addr) (fs : List (Str × V)) (c : V) (cv : Value) (b : Bool), xs = [.ref a, c] ∧ ExcC K D ∧ Exv H a D fs ∧ ClsV c cv ∧ PySem.W.kitOne K (.ref D) cv = some b ∧ Q (.bl b) H
theorem call_isV {X : Cx} : CallR X (.builtin "isinstance") (rIsV X.K) := by
  intro pins s σ H xs us Q I r hw
  obtain ⟨a, D, fs, c, cv, b, e0, T, ⟨d, ea, ed⟩, hcv, hb, q⟩ := hw
  subst e0
  match us, r with
  | [_, _], .cons rx (.cons rt .nil) =>
    cases rx
    have e1 := hcv.eq rt
    subst e1
    obtain ⟨t1, ho⟩ := exo_at I.hok ea
    obtain ⟨mA, hns, _⟩ := exd_at I.hok ed
    obtain ⟨od, hod, _⟩ := lookIn_ns hns
    obtain ⟨cd, hcd, _⟩ := PySem.W.any_some T.hd
    have here : PySem.W.InstAt s.heap a _ D (some od) := ⟨ho, rfl, rfl, hod⟩
    exact PySem.W.kia_one (PySem.W.kitx_exc (by rw [hcd]; rfl) T.hg T.hk T.hs T.ha T.hn T.ht T.hm) I.kIn here hb (fun z => nomatch z) fun tk => ⟨.bl b, H, I.kept (t' := tk) fun _ _ z => z, rfl, q⟩
/-- e.f of such an exception -/
def tFldV (K : PySem.W.Frag) (f : Str) (te : TE) : TE := fun σ H Q => te σ H fun x H1 => ∃ (a C : Addr) (fs : List (Str × V)) (v : V), x = .ref a ∧ XfC K C ∧ PySem.W.findIn K (.ref C) f = some none ∧ Exv H1 a C fs ∧ fs.lookup f = some v ∧ Q v H1
theorem pe_fldV {X : Cx} {e : Expr} {te : TE} {pos : Pos} {f : Str} (he : PE X e te) (hb : attributeBase e f X.env (eval e X.env) = eval e X.env := by rfl) : PE X (.Attribute e f pos) (tFldV X.K f te) := by
  refine ⟨fun pins s σ H Q I hw => attr_of hb (thn (he.run pins s σ H _ I hw) fun u s1 ⟨x, H1, I1, rx, a, C, fs, v, e0, T, hno, ⟨d, ea, ed⟩, l, q⟩ => ?_)⟩
  subst e0
  cases rx
  obtain ⟨t1, ho⟩ := exo_at I1.hok ea
  obtain ⟨mA, hns, hr⟩ := exd_at I1.hok ed
  obtain ⟨od, hod, hl⟩ := lookIn_ns hns
  obtain ⟨w, hw, rw'⟩ := RelO.some_of (v := v) (o := mA f) (by rw [← l]; exact hr f)
  have here : PySem.W.InstAt s1.heap a _ C (some od) := ⟨ho, rfl, rfl, hod⟩
  exact HandSPX.exc_get I1.kIn here T.ga T.gg T.exC (PySem.W.findObj_own T.hdC hno rfl (by rw [hl, hw])) (handed_of rw') ⟨v, H1, I1.tok _, rw', q⟩
/-- C(e, ..) as a value -/
def tNewV (C : Addr) (sp : Sp) (ta : TA) : TE := fun σ H Q => ta σ H fun vs H1 => vs.length ≤ 1000 ∧ ∀ a, H1 a = none → sp (.ref a :: vs) (upd H1 a (exo a C none)) (fun v H2 => v = .non ∧ Q (.ref a) H2) (fun _ _ _ => False)
section
variable {X : Cx} {CX : CXT} {x : Str} {C fI : Addr} {k : Nat} {fd : FuncData} {ps : List Str} {sp : Sp} {e : Expr} {es : List Expr} {ta : TA} {p pos : Pos}
theorem pe_newV (T : OexC X.K C) (iC : PySem.W.findIn X.K (.ref C) "__init__" = some (some (.ref fI))) (tI : PySem.W.typeIn X.K (.ref fI) = some (.type "function"))
    (F1 : FnOk X.prog X.w X.K X.mg X.base CX k fI fd ps sp) (hr : Room (k + 1) X.A) (hb : Binds X.K fd ps []) (hx : Passes CX X (fun _ _ _ => False)) (hg : Gl X x) (hm : X.mg x = some (.ref C)) (ha : PA X (e :: es) ta)
    (hdb : (x == ("__debug__" : Str)) = false := by decide) (he : starEach (e :: es) X.env = (false, eval e X.env) :: starEach es X.env := by rfl) (hpl : (backTo pos (starEach es X.env)).any (·.1) = false := by rfl) :
    PE X (.Call (.Name x p) (e :: es) [] pos) (tNewV C sp ta) := by
  refine ⟨fun pins s σ H Q I hw => wpAny_Call_Name_kw (ld_glob I hg hm ?_ hdb)⟩
  obtain ⟨nm, qn, N, bs, bm, sn, sub, ab, col, dd, k0, k1, k2, k3, k5, hC, hbm⟩ := T.cls
  refine PySem.W.callWith_K (h₀ := X.base) I.ok.mod.kin T.kC (thn (ha.run pos pins s σ H _ I hw) fun us s1 ⟨vs, H1, I1, r1, hz, q1⟩ => ⟨I1.kIn, ?_⟩) he hpl
  show wpAny _ _ (call (.ref C) us) _ _ _
  obtain ⟨hp, g, dr, tk, os⟩ := s1
  have le1 : hp.objs.size ≤ hp.objs.size + 1 := by omega
  have kept : ∀ b o, hp.get? b = some o → ((hp.push (PySem.W.kdv_tup us)).push (PySem.HandSPX.excO C hp.objs.size)).get? b = some o := fun _ _ z => Heap.get?_push_of_some _ (Heap.get?_push_of_some _ z)
  have at1 : ((hp.push (PySem.W.kdv_tup us)).push (PySem.HandSPX.excO C hp.objs.size)).get? (hp.objs.size + 1) = some (PySem.HandSPX.excO C hp.objs.size) := by heap_get
  have J : Inv X pins σ (upd H1 (hp.objs.size + 1) (exo (hp.objs.size + 1) C none)) ⟨(hp.push (PySem.W.kdv_tup us)).push (PySem.HandSPX.excO C hp.objs.size), g, dr, tk, os⟩ := I1.laid (t' := tk) kept le1 (exo_ok at1)
  have q2 := q1 (hp.objs.size + 1) (I1.hok.fresh le1)
  have r2 : Vals (V.ref (hp.objs.size + 1) :: vs) (Value.ref (hp.objs.size + 1) :: us) := .cons rfl r1
  have len2 : (Value.ref (hp.objs.size + 1) :: us).length = ps.length := r2.length.symm.trans (F1.len _ _ _ _ q2)
  have small : us.length ≤ sizeLine := by have := Paired.length r1; rw [sizeLine_eq]; omega
  have bnd := hb _ (Value.ref (hp.objs.size + 1) :: us) J.kIn (by simpa using len2)
  refine wpAny_call (PySem.HandSPX.call_own F.excBase_ValueError (fun Y => PySem.HandSPX.refsVE_contains Y bm hbm) (I1.kIn _ _ hC) (PySem.W.looks_findIn I1.kIn iC) (fun self => PySem.W.bind_fn I1.kIn self tI) small
    (codeAny_mono (F1.run _ X.stack _ _ ⟨Value.ref (hp.objs.size + 1) :: us, []⟩ _ _ _ _ (hr.make C us []) (J.env0.make C us []) bnd (by simpa using r2) q2) fun r s' back => ?_))
  match r, back with
  | .error er, back => exact hx pins σ _ _ er s' J back
  | .ok (.ret u), back =>
    obtain ⟨v, H', J', rv, ev, q3⟩ := J.after back
    subst ev
    exact ⟨rv, ⟨V.ref (hp.objs.size + 1), H', J', rfl, q3⟩⟩
end
section
variable {σ : L2.St} {H : Hp} {Q : VK} {te to : TE} {ta : TA} {K : PySem.W.Frag} {n bk ct : L2.St → Hp → Prop} {rt : VK} {f : Str} {C : Addr} {sp : Sp}
theorem ost (h : te σ H fun y H1 => to σ H1 fun x H2 => ∃ a C : Addr, x = .ref a ∧ OexC K C ∧ PySem.W.findIn K (.ref C) f = some none ∧
  ((H2 a = some (exo a C none) ∧ ∀ dx, H2 dx = none → dx ≠ a → n σ (upd (upd H2 dx (exd dx [(f, y)])) a (exo a C (some dx)))) ∨
    ∃ (dx : Addr) (fs : List (Str × V)), H2 a = some (exo a C (some dx)) ∧ H2 dx = some (exd dx fs) ∧ fs.length ≤ 900 ∧ n σ (upd H2 dx (exd dx ((f, y) :: fs))))) : tOst K f to te ⟨n, rt, bk, ct⟩ σ H := h
theorem fldV (h : te σ H fun x H1 => ∃ (a C : Addr) (fs : List (Str × V)) (v : V), x = .ref a ∧ XfC K C ∧ PySem.W.findIn K (.ref C) f = some none ∧ Exv H1 a C fs ∧ fs.lookup f = some v ∧ Q v H1) : tFldV K f te σ H Q := h
theorem newV (h : ta σ H fun vs H1 => vs.length ≤ 1000 ∧ ∀ a, H1 a = none → sp (.ref a :: vs) (upd H1 a (exo a C none)) (fun v H2 => v = .non ∧ Q (.ref a) H2) (fun _ _ _ => False)) : tNewV C sp ta σ H Q := h
end
end HS
namespace HS
open PySem PySem.Spec PyProof.Rows L2
/-- the refs of vs are tuples of these two values -/
def PrV (H : Hp) : List V → List (V × V) → Prop
  | [], [] => True
  | v :: vs, p :: ps => (∃ t, v = .ref t ∧ H t = some (.tup [p.1, p.2])) ∧ PrV H vs ps
  | _, _ => False
theorem PrV.keep {S : Addr → Prop} {H H' : Hp} (k : Keep S H H') : ∀ {vs : List V} {ps : List (V × V)}, PrV H vs ps → (∀ v ∈ vs, ∀ t, v = .ref t → ¬ S t) → PrV H' vs ps
  | [], [], h, _ => h
  | _ :: _, _ :: _, ⟨⟨t, e, o⟩, h⟩, n => ⟨⟨t, e, k t _ o (n _ List.mem_cons_self t e)⟩, h.keep k fun v hv => n v (List.mem_cons_of_mem _ hv)⟩
theorem PrV.same {H H' : Hp} {vs : List V} {ps : List (V × V)} (h : PrV H vs ps) (k : Keep (fun _ => False) H H') : PrV H' vs ps :=
  h.keep k fun _ _ _ _ z => z
theorem PrV.len {H : Hp} : ∀ {vs : List V} {ps : List (V × V)}, PrV H vs ps → vs.length = ps.length
  | [], [], _ => rfl
  | _ :: _, _ :: _, ⟨_, h⟩ => by rw [List.length_cons, List.length_cons, h.len]
theorem PrV.at {H : Hp} : ∀ {vs : List V} {ps : List (V × V)} {i : Nat} {v : V}, PrV H vs ps → vs[i]? = some v → ∃ t p, v = .ref t ∧ ps[i]? = some p ∧ H t = some (.tup [p.1, p.2])
  | [], [], i, _, _, e => by cases i <;> cases e
  | x :: _, p :: _, 0, v, ⟨⟨t, e', o⟩, _⟩, e => ⟨t, p, by rw [← Option.some.inj e]; exact e', rfl, o⟩
  | _ :: vs, _ :: ps, i + 1, v, ⟨_, h⟩, e => h.at (i := i) (by rw [List.getElem?_cons_succ] at e; exact e)
end HS
namespace HS
open PySem PySem.Spec PyProof.Rows L2
theorem kisV {X : Cx} (K : PySem.W.Frag) (h : X.K = K := by rfl) : CallR X (.builtin "isinstance") (rIsV K) := h ▸ call_isV
theorem kisi {X : Cx} (K : PySem.W.Frag) (h : X.K = K := by rfl) : CallR X (.builtin "isinstance") (rIsi K) := h ▸ call_isi
section
variable {K : PySem.W.Frag} {H H' : Hp} {Q : VK} {a D C p : Addr} {fs : List (Str × V)} {b : Bool} {o : HO}
theorem Exv.same (h : Exv H a C fs) (k : Keep (fun _ => False) H H') : Exv H' a C fs := by
  obtain ⟨d, e1, e2⟩ := h
  exact ⟨d, k _ _ e1 id, k _ _ e2 id⟩
theorem Exv.new (h : Exv H a C fs) (hp : H p = none) : Exv (upd H p o) a C fs := h.same (Keep.new hp)
theorem isV (T : ExcC K D) (he : Exv H a D fs) (hq : PySem.W.kitOne K (.ref D) (.ref C) = some b) (q : Q (.bl b) H) : rIsV K [.ref a, .ref C] H Q := ⟨a, D, fs, _, _, b, rfl, T, he, .own C, hq, q⟩
theorem isVt {n : String} (T : ExcC K D) (he : Exv H a D fs) (hq : PySem.W.kitOne K (.ref D) (.type n) = some b) (q : Q (.bl b) H) : rIsV K [.ref a, .ty n] H Q := ⟨a, D, fs, _, _, b, rfl, T, he, .ty n, hq, q⟩
end
end HS
namespace HS
open PySem PySem.Spec PyProof.Rows L2
theorem PrV.app {H : Hp} : ∀ {vs ws : List V} {ps qs : List (V × V)}, PrV H vs ps → PrV H ws qs → PrV H (vs ++ ws) (ps ++ qs)
  | [], _, [], _, _, g => g
  | _ :: _, _, _ :: _, _, ⟨a, h⟩, g => ⟨a, h.app g⟩
theorem PrV.new {H : Hp} {p : Addr} {o : HO} {vs : List V} {ps : List (V × V)} (h : PrV H vs ps) (hp : H p = none) : PrV (upd H p o) vs ps := h.same (Keep.new hp)
section
variable {H : Hp} {t0 t1 l : Addr} {x0 y0 x1 y1 : V}
theorem pair2 (h0 : H t0 = none) (h1 : upd H t0 (.tup [x0, y0]) t1 = none) (h2 : upd (upd H t0 (.tup [x0, y0])) t1 (.tup [x1, y1]) l = none) :
    ∃ H1, upd (upd (upd H t0 (.tup [x0, y0])) t1 (.tup [x1, y1])) l (.lst [.ref t0, .ref t1]) = H1 ∧ Keep (fun _ => False) H H1 ∧ PrV H1 [.ref t0, .ref t1] [(x0, y0), (x1, y1)] ∧ H1 l = some (.lst [.ref t0, .ref t1]) := by
  have n1 : t0 ≠ t1 := ne_of_none upd_same h1
  have e0 : upd (upd H t0 (.tup [x0, y0])) t1 (.tup [x1, y1]) t0 = some (.tup [x0, y0]) := by rw [upd_ne n1]; exact upd_same
  have e1 : upd (upd H t0 (.tup [x0, y0])) t1 (.tup [x1, y1]) t1 = some (.tup [x1, y1]) := upd_same
  refine ⟨_, rfl, (Keep.new h0).trans ((Keep.new h1).trans (Keep.new h2)), ⟨⟨t0, rfl, ?_⟩, ⟨t1, rfl, ?_⟩, trivial⟩, upd_same⟩
  · rw [upd_ne (ne_of_none e0 h2)]; exact e0
  · rw [upd_ne (ne_of_none e1 h2)]; exact e1
theorem pair1 (h0 : H t0 = none) (h2 : upd H t0 (.tup [x0, y0]) l = none) :
    ∃ H1, upd (upd H t0 (.tup [x0, y0])) l (.lst [.ref t0]) = H1 ∧ Keep (fun _ => False) H H1 ∧ PrV H1 [.ref t0] [(x0, y0)] ∧ H1 l = some (.lst [.ref t0]) := by
  refine ⟨_, rfl, (Keep.new h0).trans (Keep.new h2), ⟨⟨t0, rfl, ?_⟩, trivial⟩, upd_same⟩
  rw [upd_ne (ne_of_none upd_same h2)]; exact upd_same
end
end HS
namespace HS
open PySem PySem.Spec PyProof.Rows L2
theorem Keep.over {H H' : Hp} {a : Addr} {o : HO} (k : Keep (fun x => x = a) (upd H a o) H') (h : H a = none) : Keep (fun _ => False) H H' := fun p u e _ => by
  have n := ne_of_none e h
  exact k p u (by rw [upd_ne n]; exact e) n
end HS
namespace HS
open PySem PySem.Spec PyProof.Rows L2
/-- the same by the law's own look: leaves, lists and tuples of such -/
inductive SmV (K : PySem.W.Frag) (H : Hp) : Nat → V → V → Prop
  | non {n : Nat} : SmV K H n .non .non
  | bl {n : Nat} (b : Bool) : SmV K H n (.bl b) (.bl b)
  | int {n : Nat} (i : Int) : SmV K H n (.int i) (.int i)
  | str {n : Nat} (x : Str) : SmV K H n (.str x) (.str x)
  | lst {n : Nat} {a b : Addr} {xs ys : List V} : H a = some (.lst xs) → H b = some (.lst ys) → xs.length = ys.length → xs.length ≤ 1000 → (∀ (i : Nat) (x y : V), xs[i]? = some x → ys[i]? = some y → SmV K H n x y) → SmV K H (n + 1) (.ref a) (.ref b)
  | tup {n : Nat} {a b : Addr} {xs ys : List V} : H a = some (.tup xs) → H b = some (.tup ys) → xs.length = ys.length → xs.length ≤ 1000 → (∀ (i : Nat) (x y : V), xs[i]? = some x → ys[i]? = some y → SmV K H n x y) → SmV K H (n + 1) (.ref a) (.ref b)
theorem SmV.same {K : PySem.W.Frag} {H H' : Hp} (k : Keep (fun _ => False) H H') : ∀ {n : Nat} {x y : V}, SmV K H n x y → SmV K H' n x y
  | _, _, _, .non => .non
  | _, _, _, .bl b => .bl b
  | _, _, _, .int i => .int i
  | _, _, _, .str x => .str x
  | _, _, _, .lst h1 h2 h3 h4 h => .lst (k _ _ h1 id) (k _ _ h2 id) h3 h4 fun i x y e1 e2 => (h i x y e1 e2).same k
  | _, _, _, .tup h1 h2 h3 h4 h => .tup (k _ _ h1 id) (k _ _ h2 id) h3 h4 fun i x y e1 e2 => (h i x y e1 e2).same k
/-- x[i] of a list or a tuple -/
def rIxA (K : PySem.W.Frag) : R2 := fun x y H Q => rIxL K x y H Q ∨ rIxT K x y H Q
theorem ixa {X : Cx} (K : PySem.W.Frag) (h : X.K = K := by rfl) : IxR X (rIxA K) := fun value slice pins s σ H x y v u Q I rx ry r =>
  r.elim (fun r => ixl K h value slice pins s σ H x y v u Q I rx ry r) fun r => ixt K h value slice pins s σ H x y v u Q I rx ry r
section
variable {K : PySem.W.Frag} {H : Hp} {Q : VK}
theorem isi {x : V} {m n : String} (b : Bool) (ty : TyX K H x (.type m)) (hq : kitB m n = some b) (q : Q (.bl b) H) : rIsi K [x, .ty n] H Q := ⟨x, _, _, _, b, rfl, .ty n, ty, kit_ty hq, q⟩
theorem isN {x : V} (q : Q (.bl (decide (x = .non))) H) : (fun x y H Q => y = V.non ∧ Q (.bl (decide (x = .non))) H : R2) x .non H Q := ⟨rfl, q⟩
theorem eqS {x y : V} (hs : scal x y = true) (e : x = y) (q : Q (.bl true) H) : rEq x y H Q := ⟨hs, by rw [decide_eq_true e]; exact q⟩
theorem neB {b c : Bool} (q : Q (.bl (!decide (b = c))) H) : rNe (.bl b) (.bl c) H Q := ⟨rfl, by
  have e : decide (V.bl b = V.bl c) = decide (b = c) := by cases b <;> cases c <;> rfl
  rw [e]; exact q⟩
theorem kb_bb : kitB "bool" "bool" = some true := by decide +kernel
theorem kb_ib : kitB "int" "bool" = some false := by decide +kernel
theorem kb_ii : kitB "int" "int" = some true := by decide +kernel
theorem kb_sb : kitB "str" "bool" = some false := by decide +kernel
theorem kb_si : kitB "str" "int" = some false := by decide +kernel
theorem kb_ss : kitB "str" "str" = some true := by decide +kernel
theorem kb_lb : kitB "list" "bool" = some false := by decide +kernel
theorem kb_li : kitB "list" "int" = some false := by decide +kernel
theorem kb_ls : kitB "list" "str" = some false := by decide +kernel
theorem kb_ll : kitB "list" "list" = some true := by decide +kernel
theorem kb_lt : kitB "list" "tuple" = some false := by decide +kernel
theorem kb_tb : kitB "tuple" "bool" = some false := by decide +kernel
theorem kb_ti : kitB "tuple" "int" = some false := by decide +kernel
theorem kb_ts : kitB "tuple" "str" = some false := by decide +kernel
theorem kb_tl : kitB "tuple" "list" = some false := by decide +kernel
theorem kb_tt : kitB "tuple" "tuple" = some true := by decide +kernel
end
end HS
/-! Defs that are called while nothing is being shown (no repr stands on the stack), so that they may call repr of a list. -/
namespace HS
open PySem PySem.Spec PyProof.Rows L2
/-- a def's promise where no repr is under way -/
structure FnG (Pg : Program) (wd : World) (K : PySem.W.Frag) (mg : Str → Option Value) (base : Heap) (C : CXT) (n : Nat) (f : Addr) (fd : FuncData) (ps : List Str) (sp : Sp) : Prop where
  len : ∀ vs H Q E, sp vs H Q E → vs.length = ps.length
  go : ∀ (B : Around) (o : List Env) (s : Shared) (H : Hp) (ar : Args) (us : List Value) (vs : List V) (Q : VK) (E : XK), B.guards = some [] → Room n B → Env0 Pg wd K mg base B o s H →
    BindsTo s fd ar (ps.zip us) → Vals vs us → sp vs H Q E → codeAny (model Pg wd) B (.call (.ref f) ar) (CR C o Pg wd H s Q E) s
section
variable {Pg : Program} {wd : World} {K : PySem.W.Frag} {mg : Str → Option Value} {base : Heap} {C : CXT} {n : Nat} {f : Addr} {fd : FuncData} {ps : List Str} {sp : Sp}
/-- a finished body's end is the call's end -/
theorem g_end {N : List Str} {q : Str} {sc : Scope} {cd : Value} {B : Around} {o : List Env} {s : Shared} {H : Hp} {E : XK} {Q : VK} {x : Cx} (hx : x = cxOf C Pg wd K mg base N q sc f cd B o s H E) (fl : Flow) {s' : Shared} :
    SP x [] { nx := fun _ H' => Q .non H', rt := Q } fl s' → CR C o Pg wd H s Q E (.ok (.ret (match fl with | .ret v => v | _ => .none))) s' := by
  subst hx
  intro h
  cases fl
  case ret u => obtain ⟨v, st, H', J, rv, y⟩ := h; exact ⟨v, H', J.os, J.bare, J.base, J.hok, rv, y⟩
  case next => obtain ⟨st, H', J, y⟩ := h; exact ⟨.non, H', J.os, J.bare, J.base, J.hok, rfl, y⟩
  all_goals exact h.elim fun _ z => z.elim fun _ z => z.2.elim
theorem Fun.okG {x qn : Str} {st : Stmt} {N : List Str} (F : L2.Fun K x qn st f fd) (S : FnScope N ps (defScope st)) (len : ∀ vs H Q E, sp vs H Q E → vs.length = ps.length)
    (hb : ∀ (cd : Value) (B : Around) (o : List Env) (s : Shared) (H : Hp) (vs : List V) (Q : VK) (E : XK), B.guards = some [] → Room n (B.deeper (envOfC qn (defScope st) s.heap.objs.size f cd)) → sp vs H Q E →
      ∃ t, PSs (cxOf L2.CX0 Pg wd K mg base N qn (defScope st) f cd B o s H E).nox (defBody st) t ∧ t { nx := fun _ H' => Q .non H', rt := Q } (start N vs) H) : FnG Pg wd K mg base L2.CX0 (n + 1) f fd ps sp := by
  obtain ⟨_, _, _, _, _, _, cd, _, _, rfl, lk, hcd⟩ := F.ex
  refine ⟨len, fun B o s H ar us vs Q E hg hr e0 bd rv hs => ?_⟩
  have kin : K.In s.heap := e0.mod.kin.keeps fun b u e => (e0.bs b u e).1
  have kinds : ∀ y ∈ ps.zip us, (defScope st).names.lookup y.1 = some .local ∨ ((defScope st).names.lookup y.1 = some .cell ∧ ((cellsFrom (s.heap.objs.size + 1) (defScope st).names []).lookup y.1).isSome = true) := by
    rintro ⟨z, v⟩ hy
    exact (S.par z (List.of_mem_zip hy).1).elim .inl fun c => .inr ⟨c, PySem.W.cellsFrom_some _ _ _ (.inl c)⟩
  refine codeAny_call_function hr.depth (kin _ _ lk) rfl S.co S.gen rfl (PySem.W.codeRec_of kin hcd) (bd _ _ _ _ (wpAny_newFunctionEnv_cells S.kind kinds fun _ he s1 made => ?_))
  subst he
  obtain ⟨t, ht, hq⟩ := hb cd B o s H vs Q E hg (hr.deeper _) hs
  have start0 := inv_start (CX := L2.CX0) (E := E) (qual := qn) (cd := cd) (f := f) S hr.hd e0 (len _ _ _ _ hs) rv made
  exact ⟨(e0.mod.nolimit.keeps fun b u e => (e0.bs b u e).1).keeps made.toInCall.keep, codeAny_func (wpAny_mono (ht.nox.run [] s1 _ H _ start0 hq) (fun fl s' => g_end rfl fl) fun _ _ h => h)⟩
end
/-! ### calls -/
/-- the call of a def, whichever way its arguments come -/
theorem after_call {X : Cx} {C : CXT} {E : XK} {pins : List (Addr × Obj)} {σ : L2.St} {H : Hp} {s : Shared} {Q : VK} {f : Addr} {us : List Value} {kw : List (Str × Value)} (hx : Passes C X E) (I : Inv X pins σ H s)
    (h : codeAny (model X.prog X.w) X.A (.call (.ref f) ⟨us, kw⟩) (CR C X.stack X.prog X.w H s Q E) s) : wpAny (model X.prog X.w) X.A (call (.ref f) us kw) (EP X pins σ Q) X.xe s :=
  wpAny_call (codeAny_mono h fun r s' y => match r, y with
    | .error e, y => hx pins σ H s e s' I y
    | .ok (.ret _), y => I.after y)
/-- how a call with keywords binds, where the numbers of its arguments are written -/
structure KBX (K : PySem.W.Frag) (fd : FuncData) (ps : List Str) (n : Nat) (ks : List Str) (g : List Value → List Value → List Value) (gV : List V → List V → List V) : Prop where
  to : ∀ (s : Shared) (us ws : List Value), us.length = n → ws.length = ks.length → BindsTo s fd ⟨us, ks.zip ws⟩ (ps.zip (g us ws))
  rel : ∀ {vs : List V} {us : List Value} {zs : List V} {ws : List Value}, Vals vs us → Vals zs ws → Vals (gV vs zs) (g us ws)
def tCallN (n m : Nat) (sp : Sp) (gV : List V → List V → List V) (E : XK) (t tk : TA) : TE := fun σ H Q => t σ H fun vs H1 => tk σ H1 fun zs H2 => vs.length = n ∧ zs.length = m ∧ sp (gV vs zs) H2 Q E
theorem relAt : ∀ {vs : List V} {us : List Value} (_ : Vals vs us) (i : Nat), RelV (vs.getD i .non) (us.getD i .none)
  | [], _, r, i => by cases r; exact rfl
  | _ :: _, _, r, 0 => by cases r with | cons a _ => exact a
  | _ :: _, _, r, i + 1 => by cases r with | cons _ b => exact relAt b i
section
variable {X : Cx} {C : CXT} {n m : Nat} {f : Addr} {fd : FuncData} {ps ks : List Str} {sp : Sp} {E : XK} {x : Str} {p q : Pos} {e : Expr} {es : List Expr} {kws : List Keyword} {t tk : TA} {g : List Value → List Value → List Value} {gV : List V → List V → List V}
theorem pe_callG (hG : X.A.guards = some []) (F : FnG X.prog X.w X.K X.mg X.base C n f fd ps sp) (hr : Room n X.A) (gl : Gl X x) (mf : X.mg x = some (.ref f)) (kf : PySem.W.keepIn X.K (.ref f) = true) (bd : Binds X.K fd ps []) (hx : Passes C X E) (ha : PA X (e :: es) t)
    (h1 : (x == ("__debug__" : Str)) = false := by decide) (h2 : starEach (e :: es) X.env = (false, eval e X.env) :: starEach es X.env := by rfl) (h3 : (backTo q (starEach es X.env)).any (·.1) = false := by rfl) :
    PE X (.Call (.Name x p) (e :: es) [] q) (tCall sp [] E t) := by
  constructor
  intro pins s σ H Q I h
  refine wpAny_Call_Name_kw (ld_glob I gl mf (PySem.W.callWith_K (h₀ := X.base) I.ok.mod.kin kf (thn (ha.run q pins s σ H _ I h) fun us s1 ⟨vs, H1, I1, r, y⟩ => ⟨I1.kIn, ?_⟩) h2 h3) h1)
  have y : sp (vs ++ []) H1 Q E := y
  rw [List.append_nil] at y
  have hl : (us ++ []).length = ps.length := by rw [List.append_nil, ← r.length]; exact F.len _ _ _ _ y
  exact after_call hx I1 (F.go X.A X.stack s1 H1 _ (us ++ []) vs Q E hG hr I1.env0 (bd s1 us I1.kIn hl) (by rw [List.append_nil]; exact r) y)
/-- f(e, .., k = v, ..), f(k = v, ..) -/
theorem kw_to (hb : KBX X.K fd ps n ks g gV) {pins : List (Addr × Obj)} {σ : L2.St} {H : Hp} {s : Shared} {Q : VK} {vs zs : List V} {us ws : List Value}
    (run : ∀ (bs : List Value) (bv : List V), BindsTo s fd ⟨us, ks.zip ws⟩ (ps.zip bs) → Vals bv bs → sp bv H Q E → codeAny (model X.prog X.w) X.A (.call (.ref f) ⟨us, ks.zip ws⟩) (CR C X.stack X.prog X.w H s Q E) s)
    (hx : Passes C X E) (I : Inv X pins σ H s) (r : Vals vs us) (rz : Vals zs ws) (l1 : vs.length = n) (l2 : zs.length = ks.length) (y : sp (gV vs zs) H Q E) : wpAny (model X.prog X.w) X.A (call (.ref f) us (ks.zip ws)) (EP X pins σ Q) X.xe s :=
  after_call hx I (run _ _ (hb.to s us ws (by rw [← r.length]; exact l1) (by rw [← rz.length]; exact l2)) (hb.rel r rz) y)
theorem pe_kwG (hG : X.A.guards = some []) (F : FnG X.prog X.w X.K X.mg X.base C m f fd ps sp) (hr : Room m X.A) (gl : Gl X x) (mf : X.mg x = some (.ref f)) (kf : PySem.W.keepIn X.K (.ref f) = true) (hb : KBX X.K fd ps n ks g gV) (hx : Passes C X E) (ha : PA X (e :: es) t) (hk : PK X kws tk)
    (h0 : (backToKw q (keywordEach kws X.env)).all (·.1.isSome) = true := by rfl) (hks : (backToKw q (keywordEach kws X.env)).filterMap (·.1) = ks := by rfl) (h1 : (x == ("__debug__" : Str)) = false := by decide) (h2 : starEach (e :: es) X.env = (false, eval e X.env) :: starEach es X.env := by rfl)
    (h3 : ((backTo q (starEach (e :: es) X.env)).any (·.1) || (backToKw q (keywordEach kws X.env)).any (·.1.isNone)) = false := by rfl) : PE X (.Call (.Name x p) (e :: es) kws q) (tCallN n ks.length sp gV E t tk) := by
  constructor
  intro pins s σ H Q I h
  refine wpAny_Call_Name_kw (ld_glob I gl mf (PySem.W.callWith_KW (h₀ := X.base) I.ok.mod.kin kf h0 (thn (ha.run q pins s σ H _ I h) fun us s1 ⟨vs, H1, I1, r, y⟩ => thn (hk.run q pins s1 σ H1 _ I1 y) fun ws s2 ⟨zs, H2, I2, rz, l1, l2, y2⟩ => ⟨I2.kIn, ?_⟩) h3 h2) h1)
  rw [hks]
  exact kw_to hb (fun bs bv b1 b2 b3 => F.go X.A X.stack s2 H2 _ bs bv Q E hG hr I2.env0 b1 b2 b3) hx I2 r rz l1 l2 y2
theorem pe_kwG0 (hG : X.A.guards = some []) (F : FnG X.prog X.w X.K X.mg X.base C m f fd ps sp) (hr : Room m X.A) (gl : Gl X x) (mf : X.mg x = some (.ref f)) (kf : PySem.W.keepIn X.K (.ref f) = true) (hb : KBX X.K fd ps 0 ks g gV) (hx : Passes C X E) (hk : PK X kws tk)
    (h0 : (backToKw q (keywordEach kws X.env)).all (·.1.isSome) = true := by rfl) (hks : (backToKw q (keywordEach kws X.env)).filterMap (·.1) = ks := by rfl) (h1 : (x == ("__debug__" : Str)) = false := by decide)
    (h3 : ((backTo q (starEach [] X.env)).any (·.1) || (backToKw q (keywordEach kws X.env)).any (·.1.isNone)) = false := by rfl) : PE X (.Call (.Name x p) [] kws q) (tCallN 0 ks.length sp gV E tNil tk) := by
  constructor
  intro pins s σ H Q I h
  refine wpAny_Call_Name_kw (ld_glob I gl mf (PySem.W.callWith_KW0 (h₀ := X.base) I.ok.mod.kin kf h0 (thn (hk.run q pins s σ H _ I h) fun ws s2 ⟨zs, H2, I2, rz, l1, l2, y2⟩ => ⟨I2.kIn, ?_⟩) h3) h1)
  rw [hks]
  exact kw_to hb (fun bs bv b1 b2 b3 => F.go X.A X.stack s2 H2 _ bs bv Q E hG hr I2.env0 b1 b2 b3) hx I2 .nil rz rfl l2 y2
/-- the same of a def that may be called anywhere -/
theorem pe_kw (F : FnOk X.prog X.w X.K X.mg X.base C m f fd ps sp) (hr : Room m X.A) (gl : Gl X x) (mf : X.mg x = some (.ref f)) (kf : PySem.W.keepIn X.K (.ref f) = true) (hb : KBX X.K fd ps n ks g gV) (hx : Passes C X E) (ha : PA X (e :: es) t) (hk : PK X kws tk)
    (h0 : (backToKw q (keywordEach kws X.env)).all (·.1.isSome) = true := by rfl) (hks : (backToKw q (keywordEach kws X.env)).filterMap (·.1) = ks := by rfl) (h1 : (x == ("__debug__" : Str)) = false := by decide) (h2 : starEach (e :: es) X.env = (false, eval e X.env) :: starEach es X.env := by rfl)
    (h3 : ((backTo q (starEach (e :: es) X.env)).any (·.1) || (backToKw q (keywordEach kws X.env)).any (·.1.isNone)) = false := by rfl) : PE X (.Call (.Name x p) (e :: es) kws q) (tCallN n ks.length sp gV E t tk) := by
  constructor
  intro pins s σ H Q I h
  refine wpAny_Call_Name_kw (ld_glob I gl mf (PySem.W.callWith_KW (h₀ := X.base) I.ok.mod.kin kf h0 (thn (ha.run q pins s σ H _ I h) fun us s1 ⟨vs, H1, I1, r, y⟩ => thn (hk.run q pins s1 σ H1 _ I1 y) fun ws s2 ⟨zs, H2, I2, rz, l1, l2, y2⟩ => ⟨I2.kIn, ?_⟩) h3 h2) h1)
  rw [hks]
  exact kw_to hb (fun bs bv b1 b2 b3 => F.run X.A X.stack s2 H2 _ bs bv Q E hr I2.env0 b1 b2 b3) hx I2 r rz l1 l2 y2
theorem pe_kw0 (F : FnOk X.prog X.w X.K X.mg X.base C m f fd ps sp) (hr : Room m X.A) (gl : Gl X x) (mf : X.mg x = some (.ref f)) (kf : PySem.W.keepIn X.K (.ref f) = true) (hb : KBX X.K fd ps 0 ks g gV) (hx : Passes C X E) (hk : PK X kws tk)
    (h0 : (backToKw q (keywordEach kws X.env)).all (·.1.isSome) = true := by rfl) (hks : (backToKw q (keywordEach kws X.env)).filterMap (·.1) = ks := by rfl) (h1 : (x == ("__debug__" : Str)) = false := by decide)
    (h3 : ((backTo q (starEach [] X.env)).any (·.1) || (backToKw q (keywordEach kws X.env)).any (·.1.isNone)) = false := by rfl) : PE X (.Call (.Name x p) [] kws q) (tCallN 0 ks.length sp gV E tNil tk) := by
  constructor
  intro pins s σ H Q I h
  refine wpAny_Call_Name_kw (ld_glob I gl mf (PySem.W.callWith_KW0 (h₀ := X.base) I.ok.mod.kin kf h0 (thn (hk.run q pins s σ H _ I h) fun ws s2 ⟨zs, H2, I2, rz, l1, l2, y2⟩ => ⟨I2.kIn, ?_⟩) h3) h1)
  rw [hks]
  exact kw_to hb (fun bs bv b1 b2 b3 => F.run X.A X.stack s2 H2 _ bs bv Q E hr I2.env0 b1 b2 b3) hx I2 .nil rz rfl l2 y2
end
section
variable {σ : L2.St} {H : Hp} {Q : VK} {t tk : TA} {sp : Sp} {gV : List V → List V → List V} {E : XK} {n m : Nat}
theorem caln (h : t σ H fun vs H1 => tk σ H1 fun zs H2 => vs.length = n ∧ zs.length = m ∧ sp (gV vs zs) H2 Q E) : tCallN n m sp gV E t tk σ H Q := h
theorem lnn {a b c d : Nat} {A : Prop} (e : a = c) (f : b = d) (h : A) : a = c ∧ b = d ∧ A := ⟨e, f, h⟩
end
/-! ### repr -/
mutual
/-- data of ints below 2 ^ 200, bools, None, in lists and tuples -/
def tame : PyData → Bool
  | .none | .bool _ => true
  | .int i => decide (i.natAbs < 2 ^ 200)
  | .list ds | .tuple ds => tameAll ds
  | _ => false
def tameAll : List PyData → Bool
  | [] => true
  | d :: ds => tame d && tameAll ds
end
theorem tame_int {i : Int} (h : i.natAbs < 2 ^ 200) : i.natAbs.log2 < 200 := by
  by_cases z : i.natAbs = 0
  · rw [z]; decide
  · exact (Nat.log2_lt z).mpr h
mutual
theorem tame_ok : ∀ d : PyData, tame d = true → d.showable = true ∧ d.hasDict = false ∧ d.leavesShort 201 = true
  | .none, _ => ⟨rfl, rfl, rfl⟩
  | .bool _, _ => ⟨rfl, rfl, rfl⟩
  | .int i, h => by
    have h' := tame_int (of_decide_eq_true (by simpa only [tame] using h))
    refine ⟨by simp only [PyData.showable]; exact decide_eq_true (by omega), rfl, ?_⟩
    simp only [PyData.leavesShort]
    exact decide_eq_true (by show (Str.ofString (toString i)).length ≤ 201; rw [PySem.ofString_length]; exact PySem.int_text_length_le (by decide) h')
  | .str _, h => by simp [tame] at h
  | .dict _, h => by simp [tame] at h
  | .list ds, h => by
    have := tame_okAll ds (by simpa only [tame] using h)
    simpa only [PyData.showable, PyData.hasDict, PyData.leavesShort] using this
  | .tuple ds, h => by
    have := tame_okAll ds (by simpa only [tame] using h)
    simpa only [PyData.showable, PyData.hasDict, PyData.leavesShort] using this
theorem tame_okAll : ∀ ds : List PyData, tameAll ds = true → PyData.showableAll ds = true ∧ PyData.hasDictAll ds = false ∧ PyData.leavesShortAll 201 ds = true
  | [], _ => ⟨rfl, rfl, rfl⟩
  | d :: ds, h => by
    have h' : tame d = true ∧ tameAll ds = true := by simpa only [tameAll, Bool.and_eq_true] using h
    obtain ⟨a, b, c⟩ := tame_ok d h'.1
    obtain ⟨a', b', c'⟩ := tame_okAll ds h'.2
    simp only [PyData.showableAll, PyData.hasDictAll, PyData.leavesShortAll, a, b, c, a', b', c']
    decide
end
/-- repr of a list or a tuple -/
def rRepr (K : PySem.W.Frag) : List V → Hp → VK → Prop := fun vs H Q => ∃ a d, vs = [.ref a] ∧ Dp K H (.ref a) d ∧ tame d = true ∧ d.depth ≤ 60 ∧ d.bulk ≤ 60000 ∧ Q (.str d.shown) H
theorem krepr (K : PySem.W.Frag) {X : Cx} {k : Nat} (hG : X.A.guards = some []) (hr : Room k X.A) (h : X.K = K := by rfl) : CallR X (.builtin "repr") (rRepr K) := by
  subst h
  intro pins s σ H xs us Q I r hq
  obtain ⟨a, d, rfl, hd, ht, hdp, hb, q⟩ := hq
  obtain ⟨u, rfl, ru⟩ := vals1 r
  obtain rfl : u = Value.ref a := ru
  obtain ⟨as, rd⟩ := Dp.reads I d _ _ hd rfl
  obtain ⟨o1, o2, o3⟩ := tame_ok d ht
  have fits := PyData.shown_le_bulk 201 (by decide) d o3
  have un := hr.units
  refine repr_of_reads' rd o1 (PyData.noDict_hsm o2) hG (by omega) (fun _ _ e => e) (fun h' u tk hk => ⟨.str d.shown, H, ?_, ⟨u, rfl⟩, q⟩) (by rw [sizeLine_eq]; omega)
  exact I.kept hk
end HS
/-! The end of a proof whose law def is called while nothing is being shown. -/
namespace HS
open PySem PySem.Spec PyProof.Rows L2
section
variable {Pg : Program} {wd : World} {K : PySem.W.Frag} {mg mb : Str → Option Value} {C : CXT} {n : Nat} {fa a : Addr} {fd : FuncData} {x : Str} {sp : Sp} {s1 : Shared} {vs : List Value} {ns : List Int}
/-- what the caller's heap holds where the abstract heap tracks the script alone, or nothing -/
structure AtTop (Pg : Program) (wd : World) (K : PySem.W.Frag) (a : Addr) (ns : List Int) (s1 : Shared) (H : Hp) : Prop where
  only : Only H
  here : SqL K H a (ns.map V.int)
  hok : HOk Pg wd H s1.heap
  one : ∀ b, b ≠ a → H b = none
  out : H a = none ∨ K.lookup a = none
theorem top_run (T : AtTop Pg wd K a ns s1 H) (KX : K.In s1.heap) (g : s1.heap.Ns mainGlobals mg) (gb : s1.heap.Ns builtinsNs mb) (hb : ∀ y : Str, y ≠ "__name__" → mb y = bootBuiltins y) (lim : s1.heap.NoLimit) (hg : s1.gens = #[])
    (seq : ∃ o, s1.heap.get? a = some o ∧ ∃ us m, o.data = .seq us m) (hr : Room n callerA) (F : ∀ base : Heap, K.In base → base.Ns mainGlobals mg → FnG Pg wd K mg base C n fa fd [x] sp) (bd : ∀ (s : Shared) (u : Value), BindsTo s fd ⟨[u], []⟩ [(x, u)])
    (want : ∀ H : Hp, Only H → SqL K H a (ns.map V.int) → sp [.ref a] H (fun v _ => v = .bl true) fun _ _ _ => False) (noX : ∀ H e s', C [] H s1 (fun _ _ _ => False) e s' → False) :
    codeAny (model Pg wd) callerA (.call (.ref fa) ⟨[.ref a], []⟩) (fun r s' => r = .ok (.ret (.bool true)) ∧ OldK s1.heap s'.heap ∧ s'.os = s1.os ∧ AllBare s'.gens) s1 := by
  obtain ⟨oa, ea, us, m, da⟩ := seq
  -- the base: all but what is tracked
  have stays : ∀ {b : Addr} {o : Obj}, s1.heap.get? b = some o → (b = a → H a = none) → (hidT s1.heap H).get? b = some o := fun {b o} e h =>
    hidT_get e (by by_cases q : b = a; · subst q; exact h rfl
                   · exact T.one b q)
  have dict : ∀ {b : Addr} {f : Str → Option Value}, s1.heap.Ns b f → (hidT s1.heap H).Ns b f := by
    rintro b f ⟨o, es, ep, e, d, r⟩
    refine ⟨o, es, ep, stays e fun q => ?_, d, r⟩
    subst q
    rw [ea] at e
    cases e
    rw [da] at d
    cases d
  have kin : K.In (hidT s1.heap H) := fun b o e => stays (KX b o e) fun q => by
    subst q
    rcases T.out with h | h
    · exact h
    · rw [h] at e; cases e
  have md : Mod K mg (hidT s1.heap H) := ⟨kin, dict g, ⟨mb, dict gb, hb⟩, by obtain ⟨mc, l1, l2⟩ := lim; exact ⟨mc, dict l1, l2⟩⟩
  have e0 : Env0 Pg wd K mg (hidT s1.heap H) callerA [] s1 H := ⟨rfl, md, fun _ _ e => of_hidT e, Nat.le_of_eq (hidT_size _ _), trivial, nofun, T.hok, .of_eq hg⟩
  refine codeAny_mono ((F _ kin (dict g)).go callerA [] s1 H ⟨[.ref a], []⟩ [.ref a] [.ref a] _ _ rfl hr e0 (bd s1 (.ref a)) (.cons rfl .nil) (want H T.only T.here)) fun r s' y => ?_
  match r, y with
  | .error e, y => exact (noX H e s' y).elim
  | .ok (.ret u), y =>
    obtain ⟨v, H', os, bare, un, ok', rv, rfl⟩ := y
    obtain rfl : u = Value.bool true := rv
    refine ⟨rfl, OldK.of_keep fun b o e => ?_, os, bare⟩
    rcases T.only b with z | ⟨ob, xs, z⟩
    · exact un.keep b o e z nofun nofun
    · have t1 := (T.hok b _ z).1
      rw [e] at t1
      rw [Option.some.inj t1]
      exact (ok' b _ (un.frzs b ob _ z)).1
theorem top_at (KX : K.In s1.heap) (ha : s1.heap.get? a = some { cls := .type "list", data := .seq vs.toArray }) (hi : IntsAre vs ns) (hl : ns.length ≤ sizeLine) : ∃ H, AtTop Pg wd K a ns s1 H := by
  have rv := vals_ints hi
  by_cases hk : K.lookup a = none
  · refine ⟨fun b => if b = a then some (.frz { cls := .type "list", data := .seq vs.toArray } (.lst (ns.map V.int))) else none, fun b => ?_, .inl (.inr ⟨_, if_pos rfl⟩), fun b u z => ?_, fun b q => if_neg q, .inr hk⟩
    · by_cases q : b = a
      · exact .inr ⟨_, _, if_pos q⟩
      · exact .inl (if_neg q)
    · by_cases q : b = a
      · subst q
        rw [if_pos rfl] at z
        cases z
        exact ⟨ha, by rw [List.length_map]; exact hl, vs, _, rv, ha⟩
      · rw [if_neg q] at z
        cases z
  · obtain ⟨o, ho⟩ := Option.ne_none_iff_exists'.mp hk
    have e := KX a o ho
    rw [ha] at e
    cases e
    exact ⟨fun _ => none, fun _ => .inl rfl, .inr ⟨_, vs.toArray, _, ho, rfl, rfl, rfl, by rw [List.size_toArray, hi.length]; exact hl, by simpa using rv⟩, (fun _ _ z => nomatch z), fun _ _ => rfl, .inl rfl⟩
end
theorem walk_ofG {l : PySem.W.OpenLaw} {n k : Nat} {q : Program} {loose : List Str} {XP : (Str → Option Value) → Heap → Prop} {YP : World → Heap → Prop} {d : DefRec} {K : Params → PySem.W.Frag} {CX : World → CXT} {sp : World → Sp} {x : Str}
    (h1 : l.most = some n) (h2 : n ≤ sizeLine) (h3 : d.params.defaults = []) (hr : Room k callerA) (hY : ∀ (w : World) (h : Heap), YP w h → (K w.params).In h)
    (F : ∀ (w : World) (mg : Str → Option Value) (fa : Addr) (h : Heap), (K w.params).In h → h.Ns mainGlobals mg → mg d.name = some (.ref fa) → ∃ fd : FuncData, (∀ (s : Shared) (u : Value), BindsTo s fd ⟨[u], []⟩ [(x, u)]) ∧
      ∀ base : Heap, (K w.params).In base → base.Ns mainGlobals mg → FnG l.prog w (K w.params) mg base (CX w) k fa fd [x] (sp w))
    (want : ∀ (w : World) (H : Hp) (a : Addr) (ns : List Int), ns.length ≤ n → Only H → SqL (K w.params) H a (ns.map V.int) → sp w [.ref a] H (fun v _ => v = .bl true) fun _ _ _ => False)
    (noX : ∀ (w : World) (H : Hp) (s : Shared) (e : Value) (s' : Shared), CX w [] H s (fun _ _ _ => False) e s' → False) : PySem.W.WalkO q loose XP YP l.row.toRowW d [] (fun f vs => PySem.call f vs) :=
  Att.attach_call h1 h3 fun w _ s1 mg _ fa _ _ _ _ a vs ns G Y _ _ _ hm ho hi hl hg => by
    obtain ⟨fd, bd, hF⟩ := F w mg fa _ (hY w _ Y) G.T.g hm
    obtain ⟨H, T⟩ := top_at (Pg := l.prog) (wd := w) (hY w _ Y) ho hi (Nat.le_trans hl h2)
    exact top_run T (hY w _ Y) G.T.g G.T.b G.T.builtins G.T.nolimit hg ⟨_, ho, _, _, rfl⟩ hr hF bd (fun H o => want w H a ns hl o) fun H e s' => noX w H s1 e s'
end HS
/-! Powers of great numbers, [x] * n. -/
namespace HS
open PySem PySem.Spec PyProof.Rows L2
def CPowW (i j : Int) : Prop := 0 ≤ j ∧ (Builtin.Int.intBits i : Int) * j ≤ 2 ^ 27
section
variable {X : Cx} {σ : L2.St} {H : Hp} {Q : VK}
theorem op_powW : OpR X (binaryOp .Pow) (rI CPowW fun i j => .int (i ^ j.toNat)) := opI fun _ _ _ _ _ _ _ hc q => pow_int hc.1 hc.2 q
theorem bits_le {i : Int} (k : Nat) (h0 : 0 ≤ i) (h : i < 2 ^ k) : Builtin.Int.intBits i ≤ k := by
  unfold Builtin.Int.intBits
  by_cases z : i = 0
  · subst z; exact Nat.zero_le _
  · rw [if_neg (by simpa using z)]
    have z' : i.natAbs ≠ 0 := by omega
    have : i.natAbs.log2 < k := (Nat.log2_lt z').mpr (by
      have : ((i.natAbs : Nat) : Int) < ((2 ^ k : Nat) : Int) := by rw [Int.natAbs_of_nonneg h0]; simpa using h
      exact Int.ofNat_lt.mp this)
    omega
theorem powW {i : Int} (k : Nat) {j : Int} (h0 : 0 ≤ i) (h : i < 2 ^ k) (hj : 0 ≤ j) (hk : (k : Int) * j ≤ 2 ^ 27) : CPowW i j := by
  refine ⟨hj, Int.le_trans (Int.mul_le_mul_of_nonneg_right ?_ hj) hk⟩
  exact Int.ofNat_le.mpr (bits_le k h0 h)
theorem flat_one {v : V} : ∀ n : Nat, (List.replicate n [v]).flatten = List.replicate n v
  | 0 => rfl
  | n + 1 => by rw [List.replicate_succ, List.flatten_cons, flat_one n]; rfl
theorem rep1 {p : Addr} {v : V} {k : Int} (h : H p = some (.lst [v])) (hk : k ≤ 1000000) (h0 : 0 ≤ k) (q : ∀ p, H p = none → Q (.ref p) (upd H p (.lst (List.replicate k.toNat v)))) : rRep (.ref p) (.int k) H Q := by
  refine ⟨p, k, _, rfl, rfl, h, by omega, by omega, ?_, fun p hp => ?_⟩
  · rw [List.length_singleton, sizeLine_eq]; omega
  · rw [flat_one]; exact q p hp
end
end HS
/-! repr of lists of ints, and == of texts. -/
namespace HS
open PySem PySem.Spec PyProof.Rows L2
section
variable {H : Hp} {Q : VK} {K : PySem.W.Frag}
theorem rep {a : Addr} {d : PyData} (h : Dp K H (.ref a) d) (t : tame d = true) (hd : d.depth ≤ 60) (hb : d.bulk ≤ 60000) (q : Q (.str d.shown) H) : rRepr K [.ref a] H Q := ⟨a, d, rfl, h, t, hd, hb, q⟩
theorem eqSS {x : Str} (q : Q (.bl true) H) : rEq (.str x) (.str x) H Q := ⟨rfl, by rw [decide_eq_true rfl]; exact q⟩
theorem neSS {x : Str} (q : Q (.bl false) H) : rNe (.str x) (.str x) H Q := ⟨rfl, by rw [decide_eq_true rfl]; exact q⟩
/-- ints that are shown -/
def Tm (ns : List Int) : Prop := (∀ x ∈ ns, x.natAbs < 2 ^ 200) ∧ ns.length ≤ 5000
theorem tame_ints : ∀ ns : List Int, (∀ x ∈ ns, x.natAbs < 2 ^ 200) → tameAll (ns.map .int) = true
  | [], _ => rfl
  | n :: r, h => by
    rw [List.map_cons, tameAll, tame_ints r fun x hx => h x (List.mem_cons_of_mem _ hx)]
    simp only [tame, Bool.and_true]
    exact decide_eq_true (h n List.mem_cons_self)
theorem bulk_ints : ∀ ns : List Int, PyData.bulkAll (ns.map .int) = ns.length
  | [] => rfl
  | n :: r => by rw [List.map_cons, PyData.bulkAll, bulk_ints r, PyData.bulk, List.length_cons]; omega
theorem tm_tame {ns : List Int} (h : Tm ns) : tame (dInts ns) = true := by unfold dInts; rw [tame]; exact tame_ints ns h.1
theorem tm_bulk {ns : List Int} (h : Tm ns) : (dInts ns).bulk ≤ 5000 := by unfold dInts; rw [PyData.bulk, bulk_ints]; exact h.2
theorem dInts_depth (ns : List Int) : (dInts ns).depth = 1 := by unfold dInts; rw [PyData.depth, dep_ints]
/-- repr of a list of ints -/
theorem repI {a : Addr} {ns : List Int} (h : SqL K H a (ns.map V.int)) (t : Tm ns) (q : Q (.str (dInts ns).shown) H) : rRepr K [.ref a] H Q :=
  rep (dp_ints h) (tm_tame t) (by rw [dInts_depth]; decide) (Nat.le_trans (tm_bulk t) (by decide)) q
/-- repr of a list of two lists of ints -/
def dII (xs ys : List Int) : PyData := .list [dInts xs, dInts ys]
theorem repII {a p r : Addr} {xs ys : List Int} (h : SqL K H a [.ref p, .ref r]) (h1 : SqL K H p (xs.map V.int)) (h2 : SqL K H r (ys.map V.int)) (t1 : Tm xs) (t2 : Tm ys) (q : Q (.str (dII xs ys).shown) H) : rRepr K [.ref a] H Q := by
  refine rep (.lst h (.cons (dp_ints h1) (.cons (dp_ints h2) .nil))) ?_ ?_ ?_ q
  · rw [tame, tameAll, tameAll, tameAll, tm_tame t1, tm_tame t2]; rfl
  · rw [PyData.depth, PyData.depthAll, PyData.depthAll, PyData.depthAll, dInts_depth, dInts_depth]; decide
  · have := tm_bulk t1
    have := tm_bulk t2
    rw [PyData.bulk, PyData.bulkAll, PyData.bulkAll, PyData.bulkAll]; omega
theorem tm_of {ns : List Int} {B : Int} (hB : B < 2 ^ 200) (h : ∀ x ∈ ns, 0 ≤ x ∧ x ≤ B) (hl : ns.length ≤ 5000) : Tm ns := ⟨fun x hx => by have := h x hx; omega, hl⟩
end
end HS
/-! Texts: joined, shown ints, ==. -/
namespace HS
open PySem PySem.Spec PyProof.Rows L2
section
variable {σ : L2.St} {H : Hp} {Q : VK} {te to : TE} {K : PySem.W.Frag}
theorem js {t : TE} {ts : List TE} {acc : Str} {q : Str → Hp → Prop} (h : t σ H fun x H1 => ∃ y : Str, x = .str y ∧ (acc ++ y).length ≤ sizeLine ∧ tJs ts (acc ++ y) σ H1 q) : tJs (t :: ts) acc σ H q := h
theorem jsn {acc : Str} {q : Str → Hp → Prop} (h : q acc H) : tJs [] acc σ H q := h
theorem fmt (h : te σ H fun x H1 => (∃ y : Str, x = .str y ∧ y.length ≤ sizeLine ∧ Q (.str y) H1) ∨ ∃ i : Int, x = .int i ∧ i.natAbs.log2 < 1920 ∧ Q (.str (toString i)) H1) : tFmt te σ H Q := h
theorem fmtI {i : Int} (h : i.natAbs.log2 < 1920 ∧ Q (.str (toString i)) H) : (∃ y : Str, V.int i = .str y ∧ y.length ≤ sizeLine ∧ Q (.str y) H) ∨ ∃ j : Int, V.int i = .int j ∧ j.natAbs.log2 < 1920 ∧ Q (.str (toString j)) H := .inr ⟨i, rfl, h⟩
theorem m1S {r : V → List V → Hp → VK → Prop} (h : to σ H fun x H1 => (∃ a, x = .str a) ∧ te σ H1 fun y H2 => r x [y] H2 Q) : tM1 r to te σ H Q := h
theorem strE {x : Str} {A : Prop} (h : A) : (∃ a, V.str x = .str a) ∧ A := ⟨⟨x, rfl⟩, h⟩
theorem lg {z : Int} (h : z.natAbs < 2 ^ 200) : z.natAbs.log2 < 1920 := by
  by_cases e : z.natAbs = 0
  · rw [e]; decide
  · exact Nat.lt_of_lt_of_le ((Nat.log2_lt e).mpr h) (by decide)
theorem eqStr {x y : Str} (q : Q (.bl (decide (x = y))) H) : rEq (.str x) (.str y) H Q := ⟨rfl, by
  have e : decide ((V.str x) = V.str y) = decide (x = y) := by
    by_cases h : x = y
    · rw [h]; simp
    · have h2 : ¬ (V.str x = V.str y) := fun z => h (V.str.inj z)
      rw [decide_eq_false h, decide_eq_false h2]
  rw [e]; exact q⟩
theorem neStr {x y : Str} (q : Q (.bl (!decide (x = y))) H) : rNe (.str x) (.str y) H Q := ⟨rfl, by
  have e : decide ((V.str x) = V.str y) = decide (x = y) := by
    by_cases h : x = y
    · rw [h]; simp
    · have h2 : ¬ (V.str x = V.str y) := fun z => h (V.str.inj z)
      rw [decide_eq_false h, decide_eq_false h2]
  rw [e]; exact q⟩
theorem addS {x y : Str} (q : x.length + y.length ≤ sizeLine ∧ Q (.str (x ++ y)) H) : ∃ i j : Str, V.str x = V.str i ∧ V.str y = .str j ∧ i.length + j.length ≤ sizeLine ∧ Q (.str (i ++ j)) H := ⟨x, y, rfl, rfl, q⟩
end
end HS
namespace WK40
open PySem PySem.Spec PyProof.Rows L2
local macro_rules | `(tactic| walk_at "ne") => `(tactic| first | assumption | (apply Ne.symm; assumption) | exact ne_of_none (by assumption) (by assumption) | exact (ne_of_none (by assumption) (by assumption)).symm | exact ne_of_none upd_same (by assumption) | exact (ne_of_none upd_same (by assumption)).symm)
local macro_rules | `(tactic| walk_at "hp") => `(tactic| first | assumption | exact upd_same | (rw [upd_ne (by walk_at "ne")]; walk_at "hp"))
local macro_rules | `(tactic| walk_at "side") => `(tactic| first | omega | decide | assumption | exact ⟨by decide, by decide⟩ | exact ⟨by omega, by omega⟩ | exact .inl (by omega) | exact .inr (by omega) | exact .inl (by decide) | exact .inr (by decide) | exact ⟨by decide, by decide, by decide⟩ | exact ⟨by decide, by decide, by omega⟩ | exact .inl ⟨by omega, by omega⟩ | exact .inr ⟨by omega, by omega⟩ | exact .inr ⟨by decide, by decide⟩ | exact .inl ⟨by decide, by decide⟩ | (show _ < _; omega))
local macro_rules | `(tactic| walk_at "len") => `(tactic| ((try simp only [List.length_map, List.length_append, List.length_cons, List.length_nil, List.length_set, List.length_replicate]); omega))
local macro_rules | `(tactic| walk_at "sq") => `(tactic| first | assumption | exact HS.sq (by walk_at "hp"))
local macro_rules | `(tactic| walk_at "st") => `(tactic| first | assumption | exact HS.st (by walk_at "hp"))
local macro_rules | `(tactic| walk_at "h1") => `(tactic| first
  | with_reducible refine HS.seq ?_
  | with_reducible refine HS.asg ?_
  | with_reducible refine HS.nm ?_
  | with_reducible refine HS.var rfl ?_
  | with_reducible refine HS.cst ?_
  | with_reducible refine HS.op ?_
  | with_reducible refine HS.i0 ?_
  | ((with_reducible refine HS.i1 ?_); first | refine ⟨by walk_at "side", ?_⟩ | skip)
  | with_reducible refine HS.u0 ?_
  | with_reducible refine HS.un ?_
  | with_reducible refine HS.eqI ?_
  | with_reducible refine HS.neI ?_
  | with_reducible refine HS.tst ?_
  | with_reducible refine HS.tb1 ?_
  | with_reducible refine HS.bex ?_
  | with_reducible refine HS.ifs ?_
  | with_reducible refine HS.ife ?_
  | with_reducible refine HS.and ?_
  | with_reducible refine HS.or ?_
  | with_reducible refine HS.not ?_
  | with_reducible refine HS.andV ?_
  | with_reducible refine HS.orV ?_
  | with_reducible refine HS.notV ?_
  | with_reducible refine HS.chn ?_
  | with_reducible refine HS.ret ?_
  | with_reducible refine HS.retN ?_
  | with_reducible refine HS.drp ?_
  | with_reducible refine HS.cb ?_
  | with_reducible refine HS.anil ?_
  | with_reducible refine HS.acons ?_
  | with_reducible refine HS.cal ?_
  | with_reducible refine HS.tup ?_
  | with_reducible refine HS.lst ?_
  | with_reducible refine HS.par ?_
  | with_reducible refine HS.ex2 ?_
  | with_reducible refine HS.aug rfl ?_
  | with_reducible refine HS.ipi ?_
  | with_reducible refine HS.addI ?_
  | with_reducible refine HS.nxt ?_
  | with_reducible refine HS.brk ?_
  | with_reducible refine HS.cnt ?_
  | with_reducible refine HS.sub ?_
  | with_reducible refine HS.pnx ?_
  | with_reducible refine HS.prt ?_
  | with_reducible refine HS.pbk ?_
  | with_reducible refine HS.pct ?_
  | with_reducible refine iteF ?_
  | with_reducible refine iteT ?_
  | with_reducible refine HS.ii ?_
  | with_reducible refine HS.bmL ?_
  | with_reducible refine HS.bmL0 ?_
  | ((with_reducible refine' HS.tyL ?e ?_); case e => walk_at "hp")
  | ((with_reducible refine' HS.app ?e ?_); (case e => walk_at "hp"))
  | ((with_reducible refine' HS.setL ?e ?f ?_); (case e => walk_at "hp"); (case f => rfl))
  | ((with_reducible refine' HS.wp ?e ?_); case e => rfl)
  | ((with_reducible refine' HS.szc ?e ?_); case e => walk_at "len")
  | ((with_reducible refine' HS.szd ?e ?_); case e => walk_at "len")
  | with_reducible refine HS.yes ?_
  | with_reducible refine HS.lc ?_
  | with_reducible refine HS.rng1 ?_
  | with_reducible refine HS.rng2 ?_
  | with_reducible refine HS.rng3 ?_
  | with_reducible refine HS.lis ?_
  | with_reducible refine HS.fr ?_
  | with_reducible refine HS.i1e ?_
  | with_reducible refine HS.gthen ?_
  | with_reducible refine HS.g0 ?_
  | with_reducible refine HS.gfr ?_
  | with_reducible refine HS.gpl ?_
  | with_reducible refine HS.gyl ?_
  | with_reducible refine HS.lgn ?_
  | with_reducible refine HS.calg ?_
  | with_reducible refine HS.revL ?_
  | with_reducible refine HS.sl ?_
  | with_reducible refine HS.noP ?_
  | with_reducible refine HS.part ?_
  | with_reducible refine HS.ie ?_
  | ((with_reducible refine' HS.slLs ?e ?_); case e => walk_at "sq")
  | ((with_reducible refine' HS.gtup ?e ?f ?_); (case e => walk_at "st"); (case f => rfl))
  | with_reducible refine HS.gcons ?_
  | with_reducible refine HS.gnil ?_
  | with_reducible refine HS.itup ?_
  | with_reducible refine HS.ienu ?_
  | ((with_reducible refine' HS.cat ?e ?f ?_); (case e => walk_at "hp"); (case f => walk_at "hp"))
  | ((with_reducible refine' HS.ext ?e ?f ?_); (case e => walk_at "hp"); (case f => walk_at "hp"))
  | ((with_reducible refine' HS.sumL ?e ?_); case e => walk_at "sq")
  | ((with_reducible refine' HS.lenL ?e ?_); case e => walk_at "sq")
  | ((with_reducible refine' HS.lenT ?e ?_); case e => walk_at "st")
  | with_reducible refine HS.ra ?_
  | ((with_reducible refine' HS.ixL ?e ?f ?_); (case e => walk_at "sq"); (case f => rfl))
  | ((with_reducible refine' HS.ixT ?e ?f ?_); (case e => walk_at "st"); (case f => rfl)))
local macro_rules | `(tactic| walk_at "hs") => `(tactic| repeat' (walk_at "h1"))
local macro_rules | `(tactic| walk_at "fold") => `(tactic| (walk_at "hs"; assumption))
local macro_rules | `(tactic| walk_at "ns") => `(tactic| first | exact (fun z => z) | assumption | exact HS.nS2 (by walk_at "ne") (by walk_at "ne") | exact HS.nS3 (by walk_at "ne") (by walk_at "ne") (by walk_at "ne"))
local macro_rules | `(tactic| walk_at "kp") => `(tactic| first
  | assumption
  | exact HS.Keep.refl
  | (refine HS.Keep.at ?_ (by first | exact .inl rfl | exact .inr rfl | exact .inr (.inl rfl) | exact .inr (.inr rfl)); walk_at "kp")
  | (refine HS.Keep.put ?_ (by assumption); walk_at "kp")
  | (refine HS.Keep.new' (by assumption) (by first | assumption | exact HS.Keep.refl) (by walk_at "ns") ?_; walk_at "kp"))
local macro_rules | `(tactic| walk_at "ev") => `(tactic| first | assumption | exact HS.Exv.new (by walk_at "ev") (by assumption))
local macro_rules | `(tactic| walk_at "h1") => `(tactic| first
  | with_reducible refine HS.ost ?_
  | with_reducible refine HS.fldV ?_
  | with_reducible refine HS.newV ?_
  | with_reducible refine HS.newK ?_
  | ((with_reducible refine' HS.isV ?T ?he ?hq ?_); (case T => assumption); (case he => walk_at "ev"); (case hq => assumption))
  | ((with_reducible refine' HS.isVt ?T ?he ?hq ?_); (case T => assumption); (case he => walk_at "ev"); (case hq => assumption)))
local macro_rules | `(tactic| walk_at "h1") => `(tactic| first
  | with_reducible refine HS.caln ?_
  | with_reducible refine HS.ckw ?_
  | with_reducible refine HS.izip ?_
  | with_reducible refine HS.orT ?_
  | with_reducible refine HS.srv ?_
  | with_reducible refine HS.nt ?_
  | with_reducible refine HS.nf ?_
  | ((with_reducible refine' HS.lnn ?e ?f ?_); (case e => rfl); (case f => rfl)))
local macro_rules | `(tactic| walk_at "h1") => `(tactic| first
  | with_reducible refine HS.js ?_
  | with_reducible refine HS.jsn ?_
  | with_reducible refine HS.fmt ?_
  | with_reducible refine HS.m1S ?_
  | with_reducible refine HS.strE ?_)
def topS (i : Nat) : Stmt := PySem.Challenge.pw_pagecounts_k40_texts_shown.main.body.getD i (.Pass ⟨0, 0, 0, 0⟩)
abbrev s_show_chapters : Stmt := topS 2
abbrev N_show_chapters : List Str := ["many", "length"]
theorem sc_show_chapters : FnScope N_show_chapters ["many", "length"] (defScope s_show_chapters) := ⟨rfl, rfl, rfl, by decide +kernel, rfl, by decide +kernel, by decide +kernel⟩
abbrev s_show_book : Stmt := topS 1
abbrev N_show_book : List Str := ["book", "parts", "many", "index", "length"]
theorem sc_show_book : FnScope N_show_book ["book"] (defScope s_show_book) := ⟨rfl, rfl, rfl, by decide +kernel, rfl, by decide +kernel, by decide +kernel⟩
abbrev s__law_source : Stmt := topS 4
abbrev N__law_source : List Str := ["script", "mix", "digits", "cell", "span"]
theorem sc__law_source : FnScope N__law_source ["script"] (defScope s__law_source) := ⟨rfl, rfl, rfl, by decide +kernel, rfl, by decide +kernel, by decide +kernel⟩
abbrev s__law_draw : Stmt := topS 5
abbrev N__law_draw : List Str := ["source", "many", "drawn", "mixed"]
theorem sc__law_draw : FnScope N__law_draw ["source", "many"] (defScope s__law_draw) := ⟨rfl, rfl, rfl, by decide +kernel, rfl, by decide +kernel, by decide +kernel⟩
abbrev s__law_same : Stmt := topS 6
abbrev N__law_same : List Str := ["found", "wanted", "k"]
theorem sc__law_same : FnScope N__law_same ["found", "wanted"] (defScope s__law_same) := ⟨rfl, rfl, rfl, by decide +kernel, rfl, by decide +kernel, by decide +kernel⟩
abbrev s__law_book : Stmt := topS 7
abbrev N__law_book : List Str := ["source", "most", "found", "time", "long"]
theorem sc__law_book : FnScope N__law_book ["source", "most"] (defScope s__law_book) := ⟨rfl, rfl, rfl, by decide +kernel, rfl, by decide +kernel, by decide +kernel⟩
abbrev s__law_written : Stmt := topS 8
abbrev N__law_written : List Str := ["lengths", "found", "spot", "many"]
theorem sc__law_written : FnScope N__law_written ["lengths"] (defScope s__law_written) := ⟨rfl, rfl, rfl, by decide +kernel, rfl, by decide +kernel, by decide +kernel⟩
abbrev s_law : Stmt := topS 9
abbrev N_law : List Str := ["script", "source", "k", "turn", "lengths", "other", "saved", "due"]
theorem sc_law : FnScope N_law ["script"] (defScope s_law) := ⟨rfl, rfl, rfl, by decide +kernel, rfl, by decide +kernel, by decide +kernel⟩
structure Ad where
  a_show_chapters : Addr
  d_show_chapters : FuncData
  a_show_book : Addr
  d_show_book : FuncData
  a__law_source : Addr
  d__law_source : FuncData
  a__law_draw : Addr
  d__law_draw : FuncData
  a__law_same : Addr
  d__law_same : FuncData
  a__law_book : Addr
  d__law_book : FuncData
  a__law_written : Addr
  d__law_written : FuncData
  a_law : Addr
  d_law : FuncData
structure Txt (K : PySem.W.Frag) (mg : Str → Option Value) (A : Ad) : Prop where
  F_show_chapters : Fun K "show_chapters" "show_chapters" s_show_chapters A.a_show_chapters A.d_show_chapters
  g_show_chapters : mg "show_chapters" = some (.ref A.a_show_chapters)
  b_show_chapters : Binds K A.d_show_chapters ["many", "length"] []
  F_show_book : Fun K "show_book" "show_book" s_show_book A.a_show_book A.d_show_book
  g_show_book : mg "show_book" = some (.ref A.a_show_book)
  b_show_book : Binds K A.d_show_book ["book"] []
  F__law_source : Fun K "_law_source" "_law_source" s__law_source A.a__law_source A.d__law_source
  g__law_source : mg "_law_source" = some (.ref A.a__law_source)
  b__law_source : Binds K A.d__law_source ["script"] []
  F__law_draw : Fun K "_law_draw" "_law_draw" s__law_draw A.a__law_draw A.d__law_draw
  g__law_draw : mg "_law_draw" = some (.ref A.a__law_draw)
  b__law_draw : Binds K A.d__law_draw ["source", "many"] []
  F__law_same : Fun K "_law_same" "_law_same" s__law_same A.a__law_same A.d__law_same
  g__law_same : mg "_law_same" = some (.ref A.a__law_same)
  b__law_same : Binds K A.d__law_same ["found", "wanted"] []
  F__law_book : Fun K "_law_book" "_law_book" s__law_book A.a__law_book A.d__law_book
  g__law_book : mg "_law_book" = some (.ref A.a__law_book)
  b__law_book : Binds K A.d__law_book ["source", "most"] []
  F__law_written : Fun K "_law_written" "_law_written" s__law_written A.a__law_written A.d__law_written
  g__law_written : mg "_law_written" = some (.ref A.a__law_written)
  b__law_written : Binds K A.d__law_written ["lengths"] []
  F_law : Fun K "law" "law" s_law A.a_law A.d_law
  g_law : mg "law" = some (.ref A.a_law)
  b_law : Binds K A.d_law ["script"] []
  z_bool : mg "bool" = none
  z_enumerate : mg "enumerate" = none
  z_int : mg "int" = none
  z_isinstance : mg "isinstance" = none
  z_len : mg "len" = none
  z_list : mg "list" = none
  z_max : mg "max" = none
  z_min : mg "min" = none
  z_range : mg "range" = none
  z_repr : mg "repr" = none
  z_str : mg "str" = none
  z_tuple : mg "tuple" = none
  kb_show_book_0_book : HS.KBX K A.d_show_book ["book"] 0 ["book"] (fun us ws => [ws.getD 0 .none]) (fun vs zs => [zs.getD 0 .non])
/-- the source of draws at s, its digits at d; n: at most so many mixed draws so far -/
def Src (H : Hp) (s d : Addr) (n : Nat) : Prop := s ≠ d ∧ ∃ (gs : List Int) (l m c : Int), H s = some (.lst [.ref d, .int l, .int m, .int c]) ∧ H d = some (.lst (gs.map V.int)) ∧ (∀ x ∈ gs, 0 ≤ x) ∧ gs.length ≤ 63 ∧ 0 ≤ l ∧ 0 ≤ m ∧ m < 2 ^ 61 ∧ 0 ≤ c ∧ c ≤ n
/-- lengths of chapters -/
def Book (ls : List Int) : Prop := ∀ x ∈ ls, 1 ≤ x ∧ x < 10 ^ 30
theorem Src.keep {H H' : Hp} {s d : Addr} {n : Nat} (h : Src H s d n) (e1 : H' s = H s) (e2 : H' d = H d) : Src H' s d n := by
  obtain ⟨hsd, gs, l, m, c, h1, h2, h3⟩ := h
  exact ⟨hsd, gs, l, m, c, by rw [e1]; exact h1, by rw [e2]; exact h2, h3⟩
theorem Src.new {H : Hp} {s d p : Addr} {n : Nat} {o : HO} (h : Src H s d n) (hp : H p = none) : Src (upd H p o) s d n := by
  obtain ⟨hsd, gs, l, m, c, h1, h2, h3⟩ := h
  exact ⟨hsd, gs, l, m, c, by rw [upd_ne (ne_of_none h1 hp)]; exact h1, by rw [upd_ne (ne_of_none h2 hp)]; exact h2, h3⟩
theorem Src.put {H : Hp} {s d p : Addr} {n : Nat} {o : HO} (h : Src H s d n) (e1 : p ≠ s) (e2 : p ≠ d) : Src (upd H p o) s d n := by
  obtain ⟨hsd, gs, l, m, c, h1, h2, h3⟩ := h
  exact ⟨hsd, gs, l, m, c, by rw [upd_ne e1.symm]; exact h1, by rw [upd_ne e2.symm]; exact h2, h3⟩
theorem Src.ne1 {H : Hp} {s d p : Addr} {n : Nat} (h : Src H s d n) (hp : H p = none) : p ≠ s := by
  obtain ⟨hsd, gs, l, m, c, h1, h2, h3⟩ := h
  exact (ne_of_none h1 hp).symm
theorem Src.ne2 {H : Hp} {s d p : Addr} {n : Nat} (h : Src H s d n) (hp : H p = none) : p ≠ d := by
  obtain ⟨hsd, gs, l, m, c, h1, h2, h3⟩ := h
  exact (ne_of_none h2 hp).symm
theorem Src.up {H : Hp} {s d : Addr} {n m : Nat} (h : Src H s d n) (e : n ≤ m) : Src H s d m := by
  obtain ⟨hsd, gs, l, m', c, h1, h2, h3, h4, h5, h6, h7, h8, h9⟩ := h
  exact ⟨hsd, gs, l, m', c, h1, h2, h3, h4, h5, h6, h7, h8, by omega⟩
/-- the page count of an edition -/
def pcount (ls : List Int) (j : Int) : Int := (ls.map fun x => (x + j - 1) / j).sum
theorem pcount_nil (j : Int) : pcount [] j = 0 := rfl
theorem pcount_cons (x : Int) (ls : List Int) (j : Int) : pcount (x :: ls) j = (x + j - 1) / j + pcount ls j := by unfold pcount; rw [List.map_cons, List.sum_cons]
theorem pcount_append (xs ys : List Int) (j : Int) : pcount (xs ++ ys) j = pcount xs j + pcount ys j := by unfold pcount; rw [List.map_append, List.sum_append]
/-- a page for each chapter, and one more for each full page of its other lines -/
theorem pcount_less1 {j : Int} (hj : 1 ≤ j) : ∀ ls : List Int, (ls.length : Int) + (ls.map fun x => (x - 1) / j).sum = pcount ls j
  | [] => rfl
  | x :: r => by
    have e : (x + j - 1) / j = (x - 1) / j + 1 := by rw [show x + j - 1 = (x - 1) + j * 1 by omega, Int.add_mul_ediv_left _ _ (by omega)]
    rw [pcount_cons, ← pcount_less1 hj r, e, List.length_cons, List.map_cons, List.sum_cons]
    push_cast
    omega
theorem pcount_take {ls : List Int} {i : Nat} {x : Int} (j : Int) (h : ls[i]? = some x) : pcount (ls.take (i + 1)) j = pcount (ls.take i) j + (x + j - 1) / j := by
  obtain ⟨h1, h2⟩ := List.getElem?_eq_some_iff.mp h
  rw [List.take_add_one, h, pcount_append]
  show _ + pcount [x] j = _
  rw [pcount_cons, pcount_nil]; omega
theorem ceil_pos {x j : Int} (hx : 1 ≤ x) (hj : 1 ≤ j) : 1 ≤ (x + j - 1) / j := by
  rw [Int.le_ediv_iff_mul_le (by omega)]; omega
theorem pcount_len {ls : List Int} {j : Int} (hp : ∀ x ∈ ls, 1 ≤ x) (hj : 1 ≤ j) : (ls.length : Int) ≤ pcount ls j := by
  induction ls with
  | nil => exact Int.le_refl 0
  | cons x r ih =>
    rw [pcount_cons, List.length_cons]
    have := ceil_pos (hp x List.mem_cons_self) hj
    have := ih fun y hy => hp y (List.mem_cons_of_mem _ hy)
    omega
theorem pcount_pos {ls : List Int} {j : Int} (hp : ∀ x ∈ ls, 1 ≤ x) (hj : 1 ≤ j) : 0 ≤ pcount ls j := by
  have := pcount_len hp hj; omega
theorem take_all {ls : List Int} {P : Int → Prop} (h : ∀ x ∈ ls, P x) (n : Nat) : ∀ x ∈ ls.take n, P x := fun x hx => h x (List.mem_of_mem_take hx)
theorem Src.same {H H' : Hp} {s d : Addr} {n : Nat} (h : Src H s d n) (k : HS.Keep (fun _ => False) H H') : Src H' s d n := by
  obtain ⟨hsd, gs, l, m, c, h1, h2, h3⟩ := h
  exact ⟨hsd, gs, l, m, c, k _ _ h1 id, k _ _ h2 id, h3⟩
theorem sum_book {ls : List Int} (h : Book ls) : (ls.length : Int) ≤ ls.sum ∧ ls.sum ≤ ls.length * (10 ^ 30) := by
  induction ls with
  | nil => exact ⟨Int.le_refl _, Int.le_refl _⟩
  | cons x r ih =>
    have := ih fun y hy => h y (List.mem_cons_of_mem _ hy)
    have := h x List.mem_cons_self
    rw [List.sum_cons, List.length_cons]
    push_cast
    omega
/-! The text of a book. -/
open PySem in
def numS (z : Int) : Str := Str.ofString (toString z)
open PySem in
def partS (m z : Int) : Str := if m = 1 then numS z else numS m ++ "x" ++ numS z
section
open PySem
theorem numS_tl {z : Int} (h : 0 ≤ z) : TL.tl (numS z) = TL.numL z.toNat := by
  obtain ⟨n, rfl⟩ := Int.eq_ofNat_of_zero_le h
  unfold numS
  rw [TL.tl_num]
  rfl
theorem numS_free {k : Nat} (hk : k < 48 ∨ 57 < k) {z : Int} (h : 0 ≤ z) : ¬ k ∈ TL.tl (numS z) := by
  rw [numS_tl h]
  exact TL.numL_free hk
theorem numS_inj {z w : Int} (hz : 0 ≤ z) (hw : 0 ≤ w) (e : numS z = numS w) : z = w := by
  have := congrArg TL.tl e
  rw [numS_tl hz, numS_tl hw] at this
  have := TL.numL_inj this
  omega
theorem numS_len {z : Int} (h : 0 ≤ z) (h1 : z < 2 ^ 200) : (numS z).length ≤ 61 := PyProof.Rows.toString_length_le h (by decide) (by omega)
theorem x_tl : TL.tl ("x" : Str) = [120] := by rw [TL.tl_ofString]; rfl
theorem sep_tl : TL.tl (" + " : Str) = [32, 43, 32] := by rw [TL.tl_ofString]; rfl
theorem empty_tl : TL.tl ("empty" : Str) = [101, 109, 112, 116, 121] := by rw [TL.tl_ofString]; rfl
theorem partS_free {m z : Int} (hm : 0 ≤ m) (hz : 0 ≤ z) : ¬ 32 ∈ TL.tl (partS m z) := by
  unfold partS
  split
  · exact numS_free (.inl (by decide)) hz
  · rw [TL.tl_append, TL.tl_append, x_tl, List.mem_append, List.mem_append]
    rintro ((h | h) | h)
    · exact numS_free (.inl (by decide)) hm h
    · simp at h
    · exact numS_free (.inl (by decide)) hz h
theorem partS_len {m z : Int} (hm : 0 ≤ m) (hm1 : m < 2 ^ 200) (hz : 0 ≤ z) (hz1 : z < 2 ^ 200) : (partS m z).length ≤ 123 := by
  have a := numS_len hm hm1
  have b := numS_len hz hz1
  unfold partS
  split
  · omega
  · rw [TL.len_tl] at a b ⊢
    rw [TL.tl_append, TL.tl_append, x_tl, List.length_append, List.length_append]
    simp only [List.length_cons, List.length_nil]
    omega
theorem part_one {z : Int} (hz : 0 ≤ z) : Txt.partition (numS z) "x" = (numS z, Str.empty, Str.empty) := TL.partition_none x_tl (numS_free (.inr (by decide)) hz)
theorem part_more {m z : Int} (hm : 0 ≤ m) : Txt.partition (numS m ++ "x" ++ numS z) "x" = (numS m, ("x" : Str), numS z) := TL.partition_app x_tl (numS_free (.inr (by decide)) hm)
theorem x_ne : ("x" : Str) ≠ Str.empty := fun h => by
  have := congrArg TL.tl h
  rw [x_tl] at this
  cases this
theorem partS_inj {m z n w : Int} (hm : 0 ≤ m) (hz : 0 ≤ z) (hn : 0 ≤ n) (hw : 0 ≤ w) (e : partS m z = partS n w) : m = n ∧ z = w := by
  have p := congrArg (fun t => Txt.partition t "x") e
  unfold partS at e p
  by_cases h1 : m = 1 <;> by_cases h2 : n = 1
  · rw [if_pos h1, if_pos h2] at e
    exact ⟨by omega, numS_inj hz hw e⟩
  · rw [if_pos h1, if_neg h2] at p
    have p' : Txt.partition (numS z) "x" = Txt.partition (numS n ++ "x" ++ numS w) "x" := p
    rw [part_one hz, part_more hn] at p'
    exact absurd (Prod.mk.inj (Prod.mk.inj p').2).1.symm x_ne
  · rw [if_neg h1, if_pos h2] at p
    have p' : Txt.partition (numS m ++ "x" ++ numS z) "x" = Txt.partition (numS w) "x" := p
    rw [part_one hw, part_more hm] at p'
    exact absurd (Prod.mk.inj (Prod.mk.inj p').2).1 x_ne
  · rw [if_neg h1, if_neg h2] at p
    have p' : Txt.partition (numS m ++ "x" ++ numS z) "x" = Txt.partition (numS n ++ "x" ++ numS w) "x" := p
    rw [part_more hm, part_more hn] at p'
    exact ⟨numS_inj hm hn (Prod.mk.inj p').1, numS_inj hz hw (Prod.mk.inj (Prod.mk.inj p').2).2⟩
/-- stretches of equal numbers, behind k of the first that were seen before -/
def runs (k : Nat) : List Int → List (Int × Int)
  | [] => []
  | x :: r => if r.head? = some x then runs (k + 1) r else ((k : Int) + 1, x) :: runs 0 r
def spread (ps : List (Int × Int)) : List Int := ps.flatMap fun p => List.replicate p.1.toNat p.2
theorem runs_spread : ∀ {k : Nat} {x : Int} {r : List Int}, spread (runs k (x :: r)) = List.replicate k x ++ x :: r
  | k, x, [] => by
    rw [runs, if_neg (by simp)]
    show List.replicate ((k : Int) + 1).toNat x ++ [] = _
    rw [show ((k : Int) + 1).toNat = k + 1 by omega, List.append_nil, List.replicate_succ', ]
  | k, x, y :: r => by
    rw [runs]
    split
    · rename_i h
      have e : y = x := by simpa using h
      subst e
      rw [runs_spread, List.replicate_succ', List.append_assoc]
      rfl
    · show List.replicate ((k : Int) + 1).toNat x ++ spread (runs 0 (y :: r)) = _
      rw [runs_spread, show ((k : Int) + 1).toNat = k + 1 by omega, List.replicate_succ', List.append_assoc]
      rfl
theorem runs_mem : ∀ {ls : List Int} {k : Nat} {p : Int × Int}, p ∈ runs k ls → 1 ≤ p.1 ∧ p.1 ≤ (k : Int) + ls.length ∧ p.2 ∈ ls
  | [], _, _, h => by cases h
  | x :: r, k, p, h => by
    rw [runs] at h
    split at h
    · have := runs_mem h
      rw [List.length_cons]
      exact ⟨this.1, by push_cast; omega, List.mem_cons_of_mem _ this.2.2⟩
    · rw [List.length_cons]
      rcases List.mem_cons.mp h with h | h
      · subst h
        exact ⟨by show 1 ≤ (k : Int) + 1; omega, by show (k : Int) + 1 ≤ _; push_cast; omega, List.mem_cons_self⟩
      · have := runs_mem h
        exact ⟨this.1, by push_cast; omega, List.mem_cons_of_mem _ this.2.2⟩
theorem runs_len : ∀ (ls : List Int) (k : Nat), (runs k ls).length ≤ ls.length
  | [], _ => Nat.le_refl _
  | x :: r, k => by
    rw [runs]
    split
    · exact Nat.le_succ_of_le (runs_len r _)
    · exact Nat.succ_le_succ (runs_len r _)
theorem runs_ne {x : Int} {r : List Int} {k : Nat} : runs k (x :: r) ≠ [] := fun z => by
  have := runs_spread (k := k) (x := x) (r := r)
  rw [z] at this
  have := congrArg List.length this
  rw [List.length_append, List.length_cons] at this
  have : (0 : Nat) = _ := this
  omega
def partsOf (ls : List Int) : List Str := (runs 0 ls).map fun p => partS p.1 p.2
def textOf (ls : List Int) : Str := if ls = [] then "empty" else Txt.join " + " (partsOf ls)
theorem partsOf_free {ls : List Int} (h : ∀ x ∈ ls, 0 ≤ x) : ∀ p ∈ partsOf ls, ¬ 32 ∈ TL.tl p := fun p hp => by
  obtain ⟨q, hq, rfl⟩ := List.mem_map.mp hp
  have := runs_mem hq
  exact partS_free (by omega) (h _ this.2.2)
theorem split_parts {ps : List Str} (hn : ps ≠ []) (h : ∀ p ∈ ps, ¬ 32 ∈ TL.tl p) : Txt.split (Txt.join " + " ps) " + " = ps := TL.split_join sep_tl (by decide +kernel) hn h
theorem map_inj {α β : Type} {f : α → β} : ∀ {xs ys : List α}, (∀ x ∈ xs, ∀ y ∈ ys, f x = f y → x = y) → xs.map f = ys.map f → xs = ys
  | [], [], _, _ => rfl
  | [], _ :: _, _, e => by cases e
  | _ :: _, [], _, e => by cases e
  | x :: xs, y :: ys, h, e => by
    rw [List.map_cons, List.map_cons] at e
    injection e with e1 e2
    rw [h x List.mem_cons_self y List.mem_cons_self e1, map_inj (fun a ha b hb => h a (List.mem_cons_of_mem _ ha) b (List.mem_cons_of_mem _ hb)) e2]
theorem partsOf_inj {xs ys : List Int} (hx : ∀ x ∈ xs, 0 ≤ x) (hy : ∀ x ∈ ys, 0 ≤ x) (nx : xs ≠ []) (ny : ys ≠ []) (e : partsOf xs = partsOf ys) : xs = ys := by
  have e2 : runs 0 xs = runs 0 ys := map_inj (fun p hp q hq e => by
    have a := runs_mem hp
    have b := runs_mem hq
    obtain ⟨c, d⟩ := partS_inj (by omega) (hx _ a.2.2) (by omega) (hy _ b.2.2) e
    exact Prod.ext c d) e
  cases xs with
  | nil => exact absurd rfl nx
  | cons x r =>
    cases ys with
    | nil => exact absurd rfl ny
    | cons y s =>
      have := congrArg spread e2
      rw [runs_spread, runs_spread] at this
      exact this
theorem textOf_not_empty {x : Int} {r : List Int} (h : ∀ y ∈ x :: r, 0 ≤ y) : textOf (x :: r) ≠ ("empty" : Str) := fun e => by
  unfold textOf at e
  rw [if_neg (by simp)] at e
  have ne : partsOf (x :: r) ≠ [] := fun z => runs_ne (List.map_eq_nil_iff.mp z)
  have s := congrArg (fun t => Txt.split t " + ") e
  have s' : Txt.split (Txt.join " + " (partsOf (x :: r))) " + " = Txt.split "empty" " + " := s
  have j : Txt.join " + " [("empty" : Str)] = ("empty" : Str) := by
    rw [TL.join_eq]
    apply TL.ext_tl
    rw [TL.tl_join]
    decide +kernel
  have f : ∀ p ∈ [("empty" : Str)], ¬ 32 ∈ TL.tl p := fun p hp => by rw [List.mem_singleton.mp hp, empty_tl]; decide
  rw [split_parts ne (partsOf_free h), ← j, split_parts (by simp) f] at s'
  have m : ("empty" : Str) ∈ partsOf (x :: r) := by rw [s']; exact List.mem_singleton.mpr rfl
  obtain ⟨q, hq, eq⟩ := List.mem_map.mp m
  have hq := runs_mem hq
  have t := congrArg TL.tl eq
  rw [empty_tl] at t
  have mem : 101 ∈ TL.tl (partS q.1 q.2) := by rw [t]; exact List.mem_cons_self
  unfold partS at mem
  split at mem
  · exact numS_free (.inr (by decide)) (h _ hq.2.2) mem
  · rw [TL.tl_append, TL.tl_append, x_tl, List.mem_append, List.mem_append] at mem
    rcases mem with (g | g) | g
    · exact numS_free (.inr (by decide)) (by omega) g
    · simp at g
    · exact numS_free (.inr (by decide)) (h _ hq.2.2) g
theorem textOf_inj {xs ys : List Int} (hx : ∀ x ∈ xs, 0 ≤ x) (hy : ∀ x ∈ ys, 0 ≤ x) : textOf xs = textOf ys ↔ xs = ys := by
  refine ⟨fun e => ?_, fun e => by rw [e]⟩
  cases xs with
  | nil =>
    cases ys with
    | nil => rfl
    | cons y s => exact absurd e.symm (textOf_not_empty hy)
  | cons x r =>
    cases ys with
    | nil => exact absurd e (textOf_not_empty hx)
    | cons y s =>
      refine partsOf_inj hx hy (by simp) (by simp) ?_
      unfold textOf at e
      rw [if_neg (by simp), if_neg (by simp)] at e
      have s' := congrArg (fun t => Txt.split t " + ") e
      have s'' : Txt.split (Txt.join " + " (partsOf (x :: r))) " + " = Txt.split (Txt.join " + " (partsOf (y :: s))) " + " := s'
      have nx : partsOf (x :: r) ≠ [] := fun z => runs_ne (List.map_eq_nil_iff.mp z)
      have ny : partsOf (y :: s) ≠ [] := fun z => runs_ne (List.map_eq_nil_iff.mp z)
      rw [split_parts nx (partsOf_free hx), split_parts ny (partsOf_free hy)] at s''
      exact s''
theorem parts_bound {ls : List Int} (h : ∀ x ∈ ls, 0 ≤ x ∧ x < 2 ^ 200) (hl : ls.length ≤ 1000) : ((partsOf ls).map fun p => p.length).sum + (partsOf ls).length * (" + " : Str).length ≤ 16777216 := by
  have a : (" + " : Str).length = 3 := by rw [TL.len_tl, sep_tl]; rfl
  have b : (partsOf ls).length ≤ 1000 := by unfold partsOf; rw [List.length_map]; exact Nat.le_trans (runs_len ls 0) hl
  have c : ∀ ps : List Str, (∀ p ∈ ps, p.length ≤ 123) → (ps.map fun p => p.length).sum ≤ ps.length * 123 := fun ps => by
    induction ps with
    | nil => intro _; exact Nat.le_refl _
    | cons p r ih =>
      intro h
      rw [List.map_cons, List.sum_cons, List.length_cons]
      have := h p List.mem_cons_self
      have := ih fun q hq => h q (List.mem_cons_of_mem _ hq)
      omega
  have d := c (partsOf ls) fun p hp => by
    obtain ⟨q, hq, rfl⟩ := List.mem_map.mp hp
    have m := runs_mem hq
    have := h _ m.2.2
    exact partS_len (by omega) (by omega) (by omega) (by omega)
  rw [a]
  omega
theorem emp_app (x : Str) : Str.empty ++ x = x := TL.ext_tl (by rw [TL.tl_append]; rfl)
theorem lenA (x y : Str) : (x ++ y).length = x.length + y.length := by rw [TL.len_tl, TL.tl_append, List.length_append, ← TL.len_tl, ← TL.len_tl]
theorem x_len : ("x" : Str).length = 1 := by rw [TL.len_tl, x_tl]; rfl
theorem numS_one {z : Int} (h : 0 ≤ z) (h1 : z < 10) : TL.tl (numS z) = [48 + z.toNat] := by rw [numS_tl h, TL.numL_lt (by omega)]
theorem text_5335 : textOf [5, 3, 3, 5] = ("5 + 2x3 + 5" : Str) := by
  have r : partsOf [5, 3, 3, 5] = [numS 5, numS 2 ++ "x" ++ numS 3, numS 5] := rfl
  show Txt.join " + " (partsOf [5, 3, 3, 5]) = _
  rw [r, TL.join_eq]
  apply TL.ext_tl
  rw [TL.tl_join, sep_tl, TL.tl_ofString, List.map_cons, List.map_cons, List.map_cons, List.map_nil, TL.tl_append, TL.tl_append, x_tl, numS_one (by decide) (by decide), numS_one (by decide) (by decide), numS_one (by decide) (by decide)]
  decide +kernel
end

section
variable {P : Program} {w : World} {K : PySem.W.Frag} {mg : Str → Option Value} {base : Heap} {A : Ad}
def sp_show_chapters (K : PySem.W.Frag) : Sp := fun vs H Q _ => ∃ (m z : Int), vs = [.int m, .int z] ∧ (1 ≤ m ∧ m < 2 ^ 200 ∧ 0 ≤ z ∧ z < 2 ^ 200 ∧ Q (.str (partS m z)) H)
theorem ok_show_chapters (T : Txt K mg A) : FnOk P w K mg base CX0 1 A.a_show_chapters A.d_show_chapters ["many", "length"] (sp_show_chapters K) := by
  refine T.F_show_chapters.ok sc_show_chapters (fun vs H Q E h => ?_) (fun cdv A0 outer s H vs Q E hr h => ?_)
  · obtain ⟨m, z, rfl, hw⟩ := h
    rfl
  · obtain ⟨m, z, rfl, hw⟩ := h
    refine ⟨_, (pss_cons (ps_if (pt_cmpR op_eq (pv 0) pe_int (nomark _))
      (pss_one (ps_ret (pe_callTy call_str_int (by rfl) T.z_str (by decide +kernel) (pa_cons (pv 1) pa_nil))))
      pss_nil)
    (pss_one (ps_ret (pe_joined (PJ.cons (pe_fmt (pv 0)) (PJ.cons pe_str (PJ.cons (pe_fmt (pv 1)) PJ.nil))))))), ?_⟩
    obtain ⟨h1, h2, h3, h4, k⟩ := hw
    have lm := numS_len (by omega) h2
    have lz := numS_len h3 h4
    walk_at "hs"
    refine HS.itd (fun e => ?_) (fun e => ?_)
    · walk_at "hs"
      refine ⟨HS.lg (by omega), ?_⟩
      rw [show partS m z = numS z from if_pos e] at k
      exact k
    · walk_at "hs"
      refine .inr ⟨m, rfl, HS.lg (by omega), ?_⟩
      refine ⟨numS m, rfl, by rw [emp_app]; exact HS.szl (by omega), ?_⟩
      rw [emp_app]
      walk_at "hs"
      refine ⟨_, rfl, by rw [lenA, x_len]; exact HS.szl (by omega), ?_⟩
      walk_at "hs"
      refine .inr ⟨z, rfl, HS.lg (by omega), ?_⟩
      refine ⟨numS z, rfl, by rw [lenA, lenA, x_len]; exact HS.szl (by omega), ?_⟩
      walk_at "hs"
      rw [show partS m z = numS m ++ "x" ++ numS z from if_neg e] at k
      exact k
def sp_show_book (K : PySem.W.Frag) : Sp := fun vs H Q _ => ∃ (b : Addr) (ls : List Int), vs = [.ref b] ∧ (SqL K H b (ls.map V.int) ∧ ls.length ≤ 1000 ∧ (∀ x ∈ ls, 0 ≤ x ∧ x < 2 ^ 200) ∧ ∀ H', HS.Keep (fun _ => False) H H' → Q (.str (textOf ls)) H')
theorem ok_show_book (T : Txt K mg A) : FnOk P w K mg base CX0 2 A.a_show_book A.d_show_book ["book"] (sp_show_book K) := by
  have G_show_chapters : FnOk P w K mg base CX0 1 A.a_show_chapters A.d_show_chapters ["many", "length"] (sp_show_chapters K) := ok_show_chapters T
  refine T.F_show_book.ok sc_show_book (fun vs H Q E h => ?_) (fun cdv A0 outer s H vs Q E hr h => ?_)
  · obtain ⟨b, ls, rfl, hw⟩ := h
    rfl
  · obtain ⟨b, ls, rfl, hw⟩ := h
    refine ⟨_, (pss_cons (ps_if (pt_not (pt_truth (pv 0) (by intro _; rfl)))
      (pss_one (ps_ret pe_str))
      pss_nil)
    (pss_cons (ps_set (i := 1) sc_show_book.nd rfl (.inl rfl) (pe_lst pa_nil))
    (pss_cons (ps_set (i := 2) sc_show_book.nd rfl (.inl rfl) pe_int)
    (pss_cons (ps_for PassesOwn.never rfl (HS.kien K (pi_enum (by rfl) T.z_enumerate (pa_cons (pv 0) pa_nil))) (HS.kgt K (pg_tup rfl (pgs_cons (pg_name (i := 3) sc_show_book.nd rfl (.inl rfl)) (pgs_cons (pg_name (i := 4) sc_show_book.nd rfl (.inl rfl)) pgs_nil))))
      (pss_cons (ps_set (i := 2) sc_show_book.nd rfl (.inl rfl) (pe_op op_add (pv 2) pe_int))
    (pss_one (ps_if (PW.pt (pw_or (pt_cmpR op_eq (pe_op op_add (pv 3) pe_int) (pe_callB (HS.klen K) (by rfl) T.z_len PySem.boot_len (pa_cons (pv 0) pa_nil)) (nomark _)) (pw_or1 (pt_cmpR op_ne (pe_ix (HS.ixl K) (pv 0) (pe_op op_add (pv 3) pe_int) (fun _ _ => rfl)) (pv 4) (nomark _)))))
      (pss_cons (ps_expr (HS.kbm K (pe_bm PySem.F.plainAttrs_list PySem.F.slot_list_append PySem.F.type_list_append mt_append (pv 1) (pa_cons (pe_call G_show_chapters hr (by rfl) T.g_show_chapters T.F_show_chapters.kp T.b_show_chapters .nil pass0 (pa_cons (pv 2) (pa_cons (pv 4) pa_nil))) pa_nil))))
    (pss_one (ps_set (i := 2) sc_show_book.nd rfl (.inl rfl) pe_int)))
      pss_nil))))
    (pss_one (ps_ret (pe_join pe_str (pv 1)))))))), ?_⟩
    obtain ⟨hb, hl, hB, k⟩ := hw
    walk_at "hs"
    refine ⟨_, .inl ⟨_, hb, rfl⟩, ?_⟩
    by_cases e0 : ls = []
    · subst e0
      refine HS.ifT (by rfl) ?_
      walk_at "hs"
      exact k _ .refl
    refine HS.ifF (by cases ls with | nil => exact absurd rfl e0 | cons x r => rfl) ?_
    walk_at "hs"
    intro P hP
    have K0 : HS.Keep (fun _ => False) H (upd H P (.lst [])) := .new hP
    walk_at "hs"
    refine ⟨b, ls.map V.int, rfl, K0.sq hb id, for_it walk_enum (fun i σ H' => HS.Keep (fun _ => False) H H' ∧ ∃ (m : Nat) (ps : List (Int × Int)) (x3 x4 : Option V), σ = [some (.ref b), some (.ref P), some (.int m), x3, x4] ∧ H' P = some (.lst ((ps.map fun p => partS p.1 p.2).map V.str)) ∧ ps ++ runs m (ls.drop i) = runs 0 ls ∧ m ≤ i) ⟨K0, 0, [], _, _, rfl, upd_same, rfl, Nat.le_refl _⟩ (fun i σ H' _ ⟨K', _⟩ => K'.sq hb id) ?_ ?_⟩
    · rintro i x σ H1 H2 hi ⟨K1, m, ps, x3, x4, rfl, hP1, hR, hm⟩ ⟨T1, u, v, rfl, hT, rfl, e1, e2⟩
      cases e1
      obtain ⟨z, rfl, hz, hil⟩ := HS.get_int e2
      have ed : ls.drop i = z :: ls.drop (i + 1) := by rw [List.drop_eq_getElem_cons hil]; congr 1; rw [List.getElem?_eq_getElem hil] at hz; exact Option.some.inj hz
      have hzB := hB z (List.mem_of_getElem? hz)
      have psl : ps.length ≤ 1000 := by
        have := congrArg List.length hR
        rw [List.length_append] at this
        have := runs_len ls 0
        omega
      have KT : HS.Keep (fun _ => False) H1 (upd H1 T1 (.tup [.int (i : Nat), .int z])) := .new hT
      have hP2 := KT _ _ hP1 id
      have hT2 := upd_same (H := H1) (a := T1) (o := .tup [.int (i : Nat), .int z])
      rw [ed, runs] at hR
      have eh : (ls.drop (i + 1)).head? = ls[i + 1]? := by rw [List.head?_drop]
      rw [eh] at hR
      have K2 := K1.trans KT
      generalize upd H1 T1 (.tup [.int (i : Nat), .int z]) = H2 at KT hP2 hT2 K2 ⊢
      have close : ls[i + 1]? ≠ some z → ps ++ [((m : Int) + 1, z)] ++ runs 0 (ls.drop (i + 1)) = runs 0 ls := fun h => by
        rw [if_neg h] at hR
        rw [← hR, List.append_assoc]; rfl
      have next : ls[i + 1]? = some z → ps ++ runs (m + 1) (ls.drop (i + 1)) = runs 0 ls := fun h => by
        rw [if_pos h] at hR
        exact hR
      have hb2 := K2.sq hb id
      walk_at "hs"
      rw [List.length_map]
      refine HS.itd (fun h => ?_) (fun h => ?_)
      · walk_at "hs"
        refine ⟨(m : Int) + 1, z, rfl, by omega, by omega, by omega, by omega, ?_⟩
        walk_at "hs"
        refine ⟨K2.put hP, 0, ps ++ [((m : Int) + 1, z)], _, _, rfl, ?_, ?_, Nat.zero_le _⟩
        · rw [upd_same, List.map_append, List.map_append]; rfl
        · exact close (by rw [List.getElem?_eq_none (by omega)]; simp)
      · walk_at "hs"
        obtain ⟨y, hy⟩ : ∃ y, ls[i + 1]? = some y := ⟨_, List.getElem?_eq_getElem (by omega)⟩
        refine HS.ixZ (K2.sq hb id) (by omega) (by rw [show ((i : Int) + 1).toNat = i + 1 by omega]; exact hy) ?_
        walk_at "hs"
        refine HS.itn (fun h2 => ?_) (fun h2 => ?_)
        · walk_at "hs"
          refine ⟨(m : Int) + 1, z, rfl, by omega, by omega, by omega, by omega, ?_⟩
          walk_at "hs"
          refine ⟨K2.put hP, 0, ps ++ [((m : Int) + 1, z)], _, _, rfl, ?_, ?_, Nat.zero_le _⟩
          · rw [upd_same, List.map_append, List.map_append]; rfl
          · exact close (by rw [hy]; intro q; exact h2 (Option.some.inj q))
        · walk_at "hs"
          exact ⟨K2, m + 1, ps, _, _, by push_cast; rfl, hP2, next (by rw [hy, h2]), by omega⟩
    · rintro σ H1 ⟨K1, m, ps, x3, x4, rfl, hP1, hR, hm⟩
      rw [List.length_map, List.drop_length, runs, List.append_nil] at hR
      subst hR
      walk_at "hs"
      refine ⟨_, P, partsOf ls, rfl, rfl, .inl (HS.sq hP1), parts_bound hB hl, ?_⟩
      rw [show textOf ls = Txt.join " + " (partsOf ls) from if_neg e0] at k
      exact k _ K1
def sp__law_source (K : PySem.W.Frag) : Sp := fun vs H Q _ => ∃ (a : Addr) (ns : List Int), vs = [.ref a] ∧ (SqL K H a (ns.map V.int) ∧ ns.length ≤ 63 ∧ ∀ H' s d, HS.Keep (fun _ => False) H H' → H s = none → H d = none → Src H' s d 0 → Q (.ref s) H')
theorem ok__law_source (T : Txt K mg A) : FnOk P w K mg base CX0 1 A.a__law_source A.d__law_source ["script"] (sp__law_source K) := by
  refine T.F__law_source.ok sc__law_source (fun vs H Q E h => ?_) (fun cdv A0 outer s H vs Q E hr h => ?_)
  · obtain ⟨a, ns, rfl, hw⟩ := h
    rfl
  · obtain ⟨a, ns, rfl, hw⟩ := h
    refine ⟨_, (pss_cons (ps_set (i := 1) sc__law_source.nd rfl (.inl rfl) pe_int)
    (pss_cons (ps_set (i := 2) sc__law_source.nd rfl (.inl rfl) (pe_lst pa_nil))
    (pss_cons (ps_for PassesOwn.never rfl (HS.kil K (pi_list (pv 0))) (pg_name (i := 3) sc__law_source.nd rfl (.inl rfl))
      (pss_cons (ps_set (i := 1) sc__law_source.nd rfl (.inl rfl) (pe_op op_mod (pe_op op_add (pe_op op_mul (pv 1) pe_int) (pv 3)) (HS.pe_fold (2305843009213693951) (pe_op op_sub (pe_op op_pow pe_int pe_int) pe_int) (by intro σ H Q q; walk_at "fold"))))
    (pss_cons (ps_set (i := 4) sc__law_source.nd rfl (.inl rfl) (pe_callB (call_max2 rfl) (by rfl) T.z_max (by decide +kernel) (pa_cons (pv 3) (pa_cons (pe_op op_sub pe_int (pv 3)) pa_nil))))
    (pss_one (ps_if (pt_cmpR op_ge (pv 4) (HS.pe_fold (1000000000000000000) (pe_op op_pow pe_int pe_int) (by intro σ H Q q; walk_at "fold")) (nomark _))
      (pss_one (ps_expr (HS.kbm K (pe_bm PySem.F.plainAttrs_list PySem.F.slot_list_append PySem.F.type_list_append mt_append (pv 2) (pa_cons (pe_op op_sub (pv 4) (HS.pe_fold (1000000000000000000) (pe_op op_pow pe_int pe_int) (by intro σ H Q q; walk_at "fold"))) pa_nil)))))
      pss_nil)))))
    (pss_one (ps_ret (pe_lst (pa_cons (pv 2) (pa_cons pe_int (pa_cons (pv 1) (pa_cons pe_int pa_nil)))))))))), ?_⟩
    obtain ⟨hS, hl, k⟩ := hw
    walk_at "hs"
    intro d hd
    walk_at "hs"
    refine ⟨⟨_, HS.Keep.sq (S := fun _ => False) (HS.Keep.new hd) hS id⟩, for_list (xs := ns.map V.int) (fun i σ H1 => HS.Keep (fun _ => False) H H1 ∧ ∃ (gs : List Int) (m : Int) (x3 x4 : Option V), σ = [some (.ref a), some (.int m), some (.ref d), x3, x4] ∧ H1 d = some (.lst (gs.map V.int)) ∧ (∀ x ∈ gs, 0 ≤ x) ∧ gs.length ≤ i ∧ 0 ≤ m ∧ m < 2 ^ 61) ?_ ?_ ?_ ?_⟩
    · exact ⟨.new hd, [], _, _, _, rfl, upd_same, by simp, Nat.le_refl _, by decide, by decide⟩
    · rintro i σ H1 _ ⟨K1, _⟩
      exact K1.sq hS id
    · rintro i x σ H1 hi ⟨K1, gs, m, x3, x4, rfl, hgd, hg0, hgl, hm0, hm1⟩
      obtain ⟨z, rfl, _, hil⟩ := HS.get_int hi
      walk_at "hs"
      have b0 : 0 ≤ (m * 1000033 + z) % 2305843009213693951 := Int.emod_nonneg _ (by decide)
      have b1 : (m * 1000033 + z) % 2305843009213693951 < 2 ^ 61 := Int.lt_trans (Int.emod_lt_of_pos _ (by decide)) (by decide)
      generalize hz : (if 0 - z > z then 0 - z else z) = y
      refine HS.itd (fun hy => ?_) (fun hy => ?_)
      · walk_at "hs"
        refine ⟨K1.put hd, gs ++ [y - 1000000000000000000], _, _, _, rfl, ?_, ?_, by simp; omega, b0, b1⟩
        · rw [upd_same, List.map_append]; rfl
        · intro x hx
          rcases List.mem_append.mp hx with hx | hx
          · exact hg0 x hx
          · rw [List.mem_singleton] at hx; omega
      · walk_at "hs"
        exact ⟨K1, gs, _, _, _, rfl, hgd, hg0, by omega, b0, b1⟩
    · rintro σ H1 ⟨K1, gs, m, x3, x4, rfl, hgd, hg0, hgl, hm0, hm1⟩
      walk_at "hs"
      intro s hs
      rw [List.length_map] at hgl
      refine k _ s d (K1.trans (.new hs)) (K1.free hs id) hd ⟨(ne_of_none hgd hs).symm, gs, 0, m, 0, upd_same, by walk_at "hp", hg0, by omega, by decide, hm0, hm1, by decide, by decide⟩
def sp__law_draw (K : PySem.W.Frag) : Sp := fun vs H Q _ => ∃ (s d : Addr) (many : Int) (n : Nat), vs = [.ref s, .int many] ∧ (Src H s d n ∧ 0 < many ∧ many < 2 ^ 200 ∧ n < 2 ^ 40 ∧ ∀ H' v, HS.Keep (fun a => a = s ∨ a = d) H H' → Src H' s d (n + 1) → 0 ≤ v → v < many → Q (.int v) H')
theorem ok__law_draw (T : Txt K mg A) : FnOk P w K mg base CX0 1 A.a__law_draw A.d__law_draw ["source", "many"] (sp__law_draw K) := by
  refine T.F__law_draw.ok sc__law_draw (fun vs H Q E h => ?_) (fun cdv A0 outer s H vs Q E hr h => ?_)
  · obtain ⟨s, d, many, n, rfl, hw⟩ := h
    rfl
  · obtain ⟨s, d, many, n, rfl, hw⟩ := h
    refine ⟨_, (Evl.pss_cut (ps_while PassesOwn.never (PW.pt (pw_and (pt_cmpR op_lt (pe_ix (HS.ixl K) (pv 0) pe_int (fun _ _ => rfl)) pe_int (nomark _)) (pw_and1 (pt_cmpR (HS.kne K (hu64 hr)) (pe_ix (HS.ixl K) (pv 0) pe_int (fun _ _ => rfl)) (pe_lst pa_nil) (nomark _)))))
      (pss_one (ps_asg (HS.kbm K (pe_bm PySem.F.plainAttrs_list PySem.F.slot_list_pop PySem.F.type_list_pop mt_popAt (pe_ix (HS.ixl K) (pv 0) pe_int (fun _ _ => rfl)) (pa_cons pe_int pa_nil))) (pg_sub (pv 0) pe_int set_list))))
    (pss_cons (ps_if (pt_cmpR op_ge (pe_ix (HS.ixl K) (pv 0) pe_int (fun _ _ => rfl)) pe_int (nomark _))
      (pss_cons (ps_set (i := 2) sc__law_draw.nd rfl (.inl rfl) (pe_op op_mod (pe_ix (HS.ixl K) (pv 0) pe_int (fun _ _ => rfl)) (pv 1)))
    (pss_cons (ps_asg (pe_op op_fdivW (pe_ix (HS.ixl K) (pv 0) pe_int (fun _ _ => rfl)) (pv 1)) (pg_sub (pv 0) pe_int set_list))
    (pss_one (ps_ret (pv 2)))))
      pss_nil)
    (pss_cons (ps_asg (pe_op op_add (pe_ix (HS.ixl K) (pv 0) pe_int (fun _ _ => rfl)) pe_int) (pg_sub (pv 0) pe_int set_list))
    (pss_cons (ps_set (i := 3) sc__law_draw.nd rfl (.inl rfl) (pe_op op_mulW (pe_op op_add (pe_ix (HS.ixl K) (pv 0) pe_int (fun _ _ => rfl)) pe_int) (pe_op op_pow (pe_op op_add (pe_ix (HS.ixl K) (pv 0) pe_int (fun _ _ => rfl)) pe_int) pe_int)))
    (pss_cons (ps_set (i := 3) sc__law_draw.nd rfl (.inl rfl) (pe_op op_mod (pe_op op_add (pv 3) (pe_op op_mul pe_int (pe_ix (HS.ixl K) (pv 0) pe_int (fun _ _ => rfl)))) (HS.pe_fold (2305843009213693951) (pe_op op_sub (pe_op op_pow pe_int pe_int) pe_int) (by intro σ H Q q; walk_at "fold"))))
    (pss_one (ps_ret (pe_op op_mod (pe_op op_fdivW (pe_op op_mod (pe_op op_pow (pv 3) pe_int) (HS.pe_fold (1000000000000000009) (pe_op op_add (pe_op op_pow pe_int pe_int) pe_int) (by intro σ H Q q; walk_at "fold"))) pe_int) (pv 1))))))))), ?_⟩
    obtain ⟨S0, hm0, hm1, hn, k⟩ := hw
    obtain ⟨hsd, gs0, l0, m0, c0, hs0, hd0, hg0, hgl0, hl0, hm00, hm01, hc0, hc1⟩ := S0
    refine HS.cut (fun σ H1 => σ = [some (.ref s), some (.int many), none, none] ∧ HS.Keep (fun a => a = s ∨ a = d) H H1 ∧ ∃ (gs : List Int) (l : Int), H1 s = some (.lst [.ref d, .int l, .int m0, .int c0]) ∧ H1 d = some (.lst (gs.map V.int)) ∧ (∀ x ∈ gs, 0 ≤ x) ∧ gs.length ≤ 63 ∧ 0 ≤ l) ?_ ?_
    · refine ⟨fun j σ H1 => σ = [some (.ref s), some (.int many), none, none] ∧ HS.Keep (fun a => a = s ∨ a = d) H H1 ∧ ∃ (gs : List Int) (l : Int), gs.length = j ∧ H1 s = some (.lst [.ref d, .int l, .int m0, .int c0]) ∧ H1 d = some (.lst (gs.map V.int)) ∧ (∀ x ∈ gs, 0 ≤ x) ∧ gs.length ≤ 63 ∧ 0 ≤ l, ⟨_, rfl, .refl, gs0, l0, rfl, hs0, hd0, hg0, hgl0, hl0⟩, ?_⟩
      rintro j σ H1 ⟨rfl, K1, gs, l, rfl, hs1, hd1, hg1, hgl1, hl1⟩
      walk_at "hs"
      refine HS.itd (fun hl => ?_) (fun hl => ?_)
      · walk_at "hs"
        intro p hp
        refine HS.neL (ys := []) (HS.sq (by walk_at "hp")) (HS.sq upd_same) ?_
        walk_at "hs"
        refine HS.itn (fun hgs => ?_) (fun hgs => ?_)
        · cases gs with
          | nil => exact absurd rfl hgs
          | cons y ys =>
            refine ⟨fun σ' H' => σ' = [some (.ref s), some (.int many), none, none] ∧ HS.Keep (fun a => a = s ∨ a = d) H H' ∧ ∃ (l : Int), H' s = some (.lst [.ref d, .int l, .int m0, .int c0]) ∧ H' d = some (.lst (ys.map V.int)) ∧ 0 ≤ l, fun σ' H' ⟨e, K', l', h1, h2, h3⟩ => ⟨ys.length, Nat.lt_succ_self _, e, K', ys, l', rfl, h1, h2, fun x hx => hg1 x (List.mem_cons_of_mem _ hx), Nat.le_of_succ_le hgl1, h3⟩, ?_⟩
            walk_at "hs"
            refine HS.pop0 (y := .int y) (ys := ys.map V.int) (by walk_at "hp") ?_
            walk_at "hs"
            exact ⟨rfl, by walk_at "kp", y, by walk_at "hp", by walk_at "hp", hg1 y List.mem_cons_self⟩
        · walk_at "hs"
          exact ⟨rfl, by walk_at "kp", gs, l, by walk_at "hp", by walk_at "hp", hg1, hgl1, hl1⟩
      · walk_at "hs"
        exact ⟨rfl, K1, gs, l, hs1, hd1, hg1, hgl1, hl1⟩
    · rintro σ H1 ⟨rfl, K1, gs, l, hs1, hd1, hg1, hgl1, hl1⟩
      walk_at "hs"
      refine HS.itd (fun hl => ?_) (fun hl => ?_)
      · walk_at "hs"
        refine ⟨HS.divW 200 hm0 hm1 (by decide) (by decide), ?_⟩
        walk_at "hs"
        exact k _ _ (by walk_at "kp") ⟨hsd, gs, l / many, m0, c0, upd_same, by walk_at "hp", hg1, hgl1, Int.ediv_nonneg hl1 (by omega), hm00, hm01, hc0, by omega⟩ (Int.emod_nonneg _ (by omega)) (Int.emod_lt_of_pos _ hm0)
      · walk_at "hs"
        obtain ⟨p0, p1⟩ := HS.pow_lt (i := c0 + 1 + 3) (a := 50) 3 (by omega) (by omega)
        have p2 : (c0 + 1 + 3) ^ Int.toNat 3 < 2 ^ 150 := by
          rcases p1 with h | h
          · exact h
          · exact absurd h (by decide)
        have p0' : 0 ≤ (c0 + 1 + 3) ^ Int.toNat 3 := p0
        generalize (c0 + 1 + 3) ^ Int.toNat 3 = cu at p2 p0' ⊢
        refine ⟨HS.mulW 62 150 (by omega) (by omega) p0' p2 (by decide) (by decide) (by decide), ?_⟩
        walk_at "hs"
        exact k _ _ (by walk_at "kp") ⟨hsd, gs, l, m0, c0 + 1, upd_same, by walk_at "hp", hg1, hgl1, hl1, hm00, hm01, by omega, by omega⟩ (Int.emod_nonneg _ (by omega)) (Int.emod_lt_of_pos _ hm0)
def sp__law_same : Nat → PySem.W.Frag → Sp
  | 0, _ => fun _ _ _ _ => False
  | n + 1, K => fun vs H Q _ => ∃ (x y : V), vs = [x, y] ∧ (HS.SmV K H n x y ∧ ∀ H', HS.Keep (fun _ => False) H H' → Q (.bl true) H')
theorem ok__law_same (T : Txt K mg A) (n : Nat) : FnOk P w K mg base CX0 (n + 1) A.a__law_same A.d__law_same ["found", "wanted"] (sp__law_same n K) := by
  induction n with
  | zero => exact T.F__law_same.ok sc__law_same (fun _ _ _ _ h => h.elim) (fun _ _ _ _ _ _ _ _ _ h => h.elim)
  | succ n G__law_same =>
  refine T.F__law_same.ok sc__law_same (fun vs H Q E h => ?_) (fun cdv A0 outer s H vs Q E hr h => ?_)
  · obtain ⟨x, y, rfl, hw⟩ := h
    rfl
  · obtain ⟨x, y, rfl, hw⟩ := h
    refine ⟨_, (pss_cons (ps_if (pt_cmpR op_isN (pv 1) pe_non (nomark _))
      (pss_one (ps_ret (pe_cmpR op_isN (pv 0) pe_non (nomark _))))
      pss_nil)
    (pss_cons (ps_if (pt_val (pe_callB (HS.kisi K) (by rfl) T.z_isinstance (by decide +kernel) (pa_cons (pv 1) (pa_cons (pe_bltn (v := .ty "bool") (by rfl) T.z_bool (by decide +kernel) rfl) pa_nil))))
      (pss_one (ps_ret (pe_and (pe_callB (HS.kisi K) (by rfl) T.z_isinstance (by decide +kernel) (pa_cons (pv 0) (pa_cons (pe_bltn (v := .ty "bool") (by rfl) T.z_bool (by decide +kernel) rfl) pa_nil))) (pe_one (pe_cmpR op_eq (pv 0) (pv 1) (nomark _))))))
      pss_nil)
    (pss_cons (ps_if (pt_val (pe_callB (HS.kisi K) (by rfl) T.z_isinstance (by decide +kernel) (pa_cons (pv 1) (pa_cons (pe_bltn (v := .ty "int") (by rfl) T.z_int (by decide +kernel) rfl) pa_nil))))
      (pss_one (ps_ret (pe_and (pe_callB (HS.kisi K) (by rfl) T.z_isinstance (by decide +kernel) (pa_cons (pv 0) (pa_cons (pe_bltn (v := .ty "int") (by rfl) T.z_int (by decide +kernel) rfl) pa_nil))) (pe_and (pe_not (pe_callB (HS.kisi K) (by rfl) T.z_isinstance (by decide +kernel) (pa_cons (pv 0) (pa_cons (pe_bltn (v := .ty "bool") (by rfl) T.z_bool (by decide +kernel) rfl) pa_nil)))) (pe_one (pe_cmpR op_eq (pv 0) (pv 1) (nomark _)))))))
      pss_nil)
    (pss_cons (ps_if (pt_val (pe_callB (HS.kisi K) (by rfl) T.z_isinstance (by decide +kernel) (pa_cons (pv 1) (pa_cons (pe_bltn (v := .ty "str") (by rfl) T.z_str (by decide +kernel) rfl) pa_nil))))
      (pss_one (ps_ret (pe_and (pe_callB (HS.kisi K) (by rfl) T.z_isinstance (by decide +kernel) (pa_cons (pv 0) (pa_cons (pe_bltn (v := .ty "str") (by rfl) T.z_str (by decide +kernel) rfl) pa_nil))) (pe_one (pe_cmpR op_eq (pv 0) (pv 1) (nomark _))))))
      pss_nil)
    (pss_cons (ps_if (pt_cmpR op_ne (pe_callB (HS.kisi K) (by rfl) T.z_isinstance (by decide +kernel) (pa_cons (pv 0) (pa_cons (pe_bltn (v := .ty "list") (by rfl) T.z_list (by decide +kernel) rfl) pa_nil))) (pe_callB (HS.kisi K) (by rfl) T.z_isinstance (by decide +kernel) (pa_cons (pv 1) (pa_cons (pe_bltn (v := .ty "list") (by rfl) T.z_list (by decide +kernel) rfl) pa_nil))) (nomark _))
      (pss_one (ps_ret pe_bl))
      pss_nil)
    (pss_cons (ps_if (PW.pt (pw_or (pt_cmpR op_ne (pe_callB (HS.kisi K) (by rfl) T.z_isinstance (by decide +kernel) (pa_cons (pv 0) (pa_cons (pe_bltn (v := .ty "tuple") (by rfl) T.z_tuple (by decide +kernel) rfl) pa_nil))) (pe_callB (HS.kisi K) (by rfl) T.z_isinstance (by decide +kernel) (pa_cons (pv 1) (pa_cons (pe_bltn (v := .ty "tuple") (by rfl) T.z_tuple (by decide +kernel) rfl) pa_nil))) (nomark _)) (pw_or1 (pt_cmpR op_ne (pe_callB (HS.klen K) (by rfl) T.z_len PySem.boot_len (pa_cons (pv 0) pa_nil)) (pe_callB (HS.klen K) (by rfl) T.z_len PySem.boot_len (pa_cons (pv 1) pa_nil)) (nomark _)))))
      (pss_one (ps_ret pe_bl))
      pss_nil)
    (pss_one (ps_ret (pe_cmpR (HS.keq K (hu64 hr)) (pe_lc (own := [("k", 2)]) (g := gName 2) rfl sc__law_same.nd (pi_range1 (by rfl) T.z_range (pa_cons (pe_callB (HS.klen K) (by rfl) T.z_len PySem.boot_len (pa_cons (pv 1) pa_nil)) pa_nil)) (blkOk_by (own := [("k", 2)]) (N := N__law_same) (sc := defScope s__law_same) (by decide +kernel)) (fun _ _ _ _ _ => pg_name (i := 2) sc__law_same.nd rfl (by first | exact .inl rfl | exact .inr rfl)) (fun _ _ _ _ _ => (pts_one (pt_not (pt_val (pe_call G__law_same hr (by rfl) T.g__law_same T.F__law_same.kp T.b__law_same .nil pass0 (pa_cons (pe_ix (HS.ixa K) (pv 0) (pv 2) (fun _ _ => rfl)) (pa_cons (pe_ix (HS.ixa K) (pv 1) (pv 2) (fun _ _ => rfl)) pa_nil))))))) (fun _ _ _ _ _ => (pv 2))) (pe_lst pa_nil) (nomark _)))))))))), ?_⟩
    obtain ⟨hs, k⟩ := hw
    walk_at "hs"
    refine ⟨rfl, ?_⟩
    walk_at "hs"
    cases hs with
    | non =>
      refine HS.it1 rfl ?_
      walk_at "hs"
      refine ⟨rfl, ?_⟩
      rw [decide_eq_true rfl]
      exact k _ .refl
    | bl b =>
      refine HS.it0 (fun z => nomatch z) ?_
      walk_at "hs"
      refine HS.isi true (.base (.bl b)) HS.kb_bb ?_
      walk_at "hs"
      refine HS.isi true (.base (.bl b)) HS.kb_bb ?_
      walk_at "hs"
      refine ⟨rfl, ?_⟩
      rw [decide_eq_true rfl]
      exact k _ .refl
    | int i =>
      refine HS.it0 (fun z => nomatch z) ?_
      walk_at "hs"
      refine HS.isi false (.base (.int i)) HS.kb_ib ?_
      walk_at "hs"
      refine HS.isi true (.base (.int i)) HS.kb_ii ?_
      walk_at "hs"
      refine HS.isi true (.base (.int i)) HS.kb_ii ?_
      walk_at "hs"
      refine HS.isi false (.base (.int i)) HS.kb_ib ?_
      walk_at "hs"
      try rw [if_pos (show (!false) = true from rfl)]
      walk_at "hs"
      rw [decide_eq_true rfl]
      exact k _ .refl
    | str x =>
      refine HS.it0 (fun z => nomatch z) ?_
      walk_at "hs"
      refine HS.isi false (.base (.str x)) HS.kb_sb ?_
      walk_at "hs"
      refine HS.isi false (.base (.str x)) HS.kb_si ?_
      walk_at "hs"
      refine HS.isi true (.base (.str x)) HS.kb_ss ?_
      walk_at "hs"
      refine HS.isi true (.base (.str x)) HS.kb_ss ?_
      walk_at "hs"
      refine ⟨by simp [scal], ?_⟩
      rw [decide_eq_true rfl]
      exact k _ .refl
    | lst h1 h2 h3 h4 h =>
      rename_i m pa pb xs ys
      refine HS.it0 (fun z => nomatch z) ?_
      walk_at "hs"
      refine HS.isi false (.base (.lst h2)) HS.kb_lb ?_
      walk_at "hs"
      refine HS.isi false (.base (.lst h2)) HS.kb_li ?_
      walk_at "hs"
      refine HS.isi false (.base (.lst h2)) HS.kb_ls ?_
      walk_at "hs"
      refine HS.isi true (.base (.lst h1)) HS.kb_ll ?_
      walk_at "hs"
      refine HS.isi true (.base (.lst h2)) HS.kb_ll ?_
      walk_at "hs"
      refine HS.neB ?_
      walk_at "hs"
      refine HS.in0 rfl ?_
      walk_at "hs"
      refine HS.isi false (.base (.lst h1)) HS.kb_lt ?_
      walk_at "hs"
      refine HS.isi false (.base (.lst h2)) HS.kb_lt ?_
      walk_at "hs"
      refine HS.neB ?_
      walk_at "hs"
      refine HS.in0 rfl ?_
      walk_at "hs"
      rw [h3]
      refine HS.in0 rfl ?_
      walk_at "hs"
      have h5 : ys.length ≤ 1000 := by omega
      refine ⟨by omega, by omega, fun D hD => ?_⟩
      refine lc_range (lo := 0) (n := (ys.length : Int).toNat) (fun i H' => HS.Keep (fun _ => False) H H' ∧ H' D = some (.lst [])) ⟨.new hD, upd_same⟩ ?_ ?_
      · rintro i H2 hi ⟨K2, e2⟩
        have hi2 : i < ys.length := by omega
        walk_at "hs"
        rw [Int.zero_add]
        refine .inl ⟨pa, xs, _, xs[i], rfl, rfl, HS.sq (K2 _ _ h1 id), at_of (j := i) (by omega) (List.getElem?_eq_getElem (by omega)), ?_⟩
        walk_at "hs"
        refine .inl ⟨pb, ys, _, ys[i], rfl, rfl, HS.sq (K2 _ _ h2 id), at_of (j := i) (by omega) (List.getElem?_eq_getElem hi2), ?_⟩
        walk_at "hs"
        · refine ⟨xs[i], ys[i], rfl, (h i _ _ (List.getElem?_eq_getElem (by omega)) (List.getElem?_eq_getElem hi2)).same K2, fun H3 K3 => ?_⟩
          walk_at "hs"
          exact ⟨K2.trans K3, K3 _ _ e2 id⟩
      · rintro H2 ⟨K2, e2⟩
        walk_at "hs"
        intro p hp
        refine HS.eqL (xs := []) (ys := []) (HS.Keep.sq (S := fun _ => False) (.new hp) (HS.sq e2) id) (HS.sq upd_same) ?_
        exact k _ (K2.trans (.new hp))
    | tup h1 h2 h3 h4 h =>
      rename_i m pa pb xs ys
      refine HS.it0 (fun z => nomatch z) ?_
      walk_at "hs"
      refine HS.isi false (.base (.tup h2)) HS.kb_tb ?_
      walk_at "hs"
      refine HS.isi false (.base (.tup h2)) HS.kb_ti ?_
      walk_at "hs"
      refine HS.isi false (.base (.tup h2)) HS.kb_ts ?_
      walk_at "hs"
      refine HS.isi false (.base (.tup h1)) HS.kb_tl ?_
      walk_at "hs"
      refine HS.isi false (.base (.tup h2)) HS.kb_tl ?_
      walk_at "hs"
      refine HS.neB ?_
      walk_at "hs"
      refine HS.in0 rfl ?_
      walk_at "hs"
      refine HS.isi true (.base (.tup h1)) HS.kb_tt ?_
      walk_at "hs"
      refine HS.isi true (.base (.tup h2)) HS.kb_tt ?_
      walk_at "hs"
      refine HS.neB ?_
      walk_at "hs"
      refine HS.in0 rfl ?_
      walk_at "hs"
      rw [h3]
      refine HS.in0 rfl ?_
      walk_at "hs"
      have h5 : ys.length ≤ 1000 := by omega
      refine ⟨by omega, by omega, fun D hD => ?_⟩
      refine lc_range (lo := 0) (n := (ys.length : Int).toNat) (fun i H' => HS.Keep (fun _ => False) H H' ∧ H' D = some (.lst [])) ⟨.new hD, upd_same⟩ ?_ ?_
      · rintro i H2 hi ⟨K2, e2⟩
        have hi2 : i < ys.length := by omega
        walk_at "hs"
        rw [Int.zero_add]
        refine .inr ⟨pa, xs, _, xs[i], rfl, rfl, HS.st (K2 _ _ h1 id), at_of (j := i) (by omega) (List.getElem?_eq_getElem (by omega)), ?_⟩
        walk_at "hs"
        refine .inr ⟨pb, ys, _, ys[i], rfl, rfl, HS.st (K2 _ _ h2 id), at_of (j := i) (by omega) (List.getElem?_eq_getElem hi2), ?_⟩
        walk_at "hs"
        · refine ⟨xs[i], ys[i], rfl, (h i _ _ (List.getElem?_eq_getElem (by omega)) (List.getElem?_eq_getElem hi2)).same K2, fun H3 K3 => ?_⟩
          walk_at "hs"
          exact ⟨K2.trans K3, K3 _ _ e2 id⟩
      · rintro H2 ⟨K2, e2⟩
        walk_at "hs"
        intro p hp
        refine HS.eqL (xs := []) (ys := []) (HS.Keep.sq (S := fun _ => False) (.new hp) (HS.sq e2) id) (HS.sq upd_same) ?_
        exact k _ (K2.trans (.new hp))
def sp__law_book (K : PySem.W.Frag) : Sp := fun vs H Q _ => ∃ (s d : Addr) (most : Int) (n : Nat), vs = [.ref s, .int most] ∧ (Src H s d n ∧ 0 ≤ most ∧ most ≤ 100 ∧ n < 2 ^ 38 ∧ ∀ H' p (ls : List Int), HS.Keep (fun a => a = s ∨ a = d) H H' → H p = none → p ≠ s → p ≠ d → H' p = some (.lst (ls.map V.int)) → ls.length ≤ 40 → Book ls → Src H' s d (n + 401) → Q (.ref p) H')
theorem ok__law_book (T : Txt K mg A) : FnOk P w K mg base CX0 2 A.a__law_book A.d__law_book ["source", "most"] (sp__law_book K) := by
  have G__law_draw : FnOk P w K mg base CX0 1 A.a__law_draw A.d__law_draw ["source", "many"] (sp__law_draw K) := ok__law_draw T
  refine T.F__law_book.ok sc__law_book (fun vs H Q E h => ?_) (fun cdv A0 outer s H vs Q E hr h => ?_)
  · obtain ⟨s, d, most, n, rfl, hw⟩ := h
    rfl
  · obtain ⟨s, d, most, n, rfl, hw⟩ := h
    refine ⟨_, (pss_cons (ps_set (i := 2) sc__law_book.nd rfl (.inl rfl) (pe_lst pa_nil))
    (pss_cons (ps_for PassesOwn.never rfl (pi_range1 (by rfl) T.z_range (pa_cons (pe_call G__law_draw hr (by rfl) T.g__law_draw T.F__law_draw.kp T.b__law_draw .nil pass0 (pa_cons (pv 0) (pa_cons (pe_op op_add (pv 1) pe_int) pa_nil))) pa_nil)) (pg_name (i := 3) sc__law_book.nd rfl (.inl rfl))
      (pss_cons (ps_set (i := 4) sc__law_book.nd rfl (.inl rfl) (pe_op op_add pe_int (pe_call G__law_draw hr (by rfl) T.g__law_draw T.F__law_draw.kp T.b__law_draw .nil pass0 (pa_cons (pv 0) (pa_cons (pe_ix (HS.ixl K) (pe_lst (pa_cons pe_int (pa_cons pe_int (pa_cons (HS.pe_fold (999999999999999999999999999999) (pe_op op_sub (pe_op op_pow pe_int pe_int) pe_int) (by intro σ H Q q; walk_at "fold")) pa_nil)))) (pe_call G__law_draw hr (by rfl) T.g__law_draw T.F__law_draw.kp T.b__law_draw .nil pass0 (pa_cons (pv 0) (pa_cons pe_int pa_nil))) (fun _ _ => rfl)) pa_nil)))))
    (pss_one (ps_set (i := 2) sc__law_book.nd rfl (.inl rfl) (pe_op op_cat (pv 2) (pe_op op_rep (pe_lst (pa_cons (pv 4) pa_nil)) (pe_ix (HS.ixl K) (pe_lst (pa_cons pe_int (pa_cons pe_int (pa_cons pe_int (pa_cons (pe_op op_add pe_int (pe_call G__law_draw hr (by rfl) T.g__law_draw T.F__law_draw.kp T.b__law_draw .nil pass0 (pa_cons (pv 0) (pa_cons pe_int pa_nil)))) pa_nil))))) (pe_call G__law_draw hr (by rfl) T.g__law_draw T.F__law_draw.kp T.b__law_draw .nil pass0 (pa_cons (pv 0) (pa_cons pe_int pa_nil))) (fun _ _ => rfl))))))))
    (pss_one (ps_ret (pe_slice (HS.sll K) (pv 2) po_none (po_some pe_int)))))), ?_⟩
    obtain ⟨S0, hm0, hm1, hn, k⟩ := hw
    walk_at "hs"
    intro F0 hF0
    have f1 := S0.ne1 hF0
    have f2 := S0.ne2 hF0
    walk_at "hs"
    refine ⟨s, d, most + 1, n, rfl, S0.new hF0, by omega, by omega, by omega, fun H2 cnt K2 S2 c0 c1 => ?_⟩
    have hF2 := K2 _ _ upd_same (by walk_at "ns")
    have K02 : HS.Keep (fun a => a = s ∨ a = d) H H2 := HS.Keep.trans (HS.Keep.new hF0) K2
    walk_at "hs"
    refine ⟨by omega, by omega, for_range (n := cnt.toNat) (fun i σ H' => HS.Keep (fun a => a = s ∨ a = d) H H' ∧ Src H' s d (n + 1 + 4 * i) ∧ ∃ (F : Addr) (ls : List Int) (x3 x4 : Option V), H F = none ∧ F ≠ s ∧ F ≠ d ∧ H' F = some (.lst (ls.map V.int)) ∧ ls.length ≤ 6 * i ∧ Book ls ∧ σ = [some (.ref s), some (.int most), some (.ref F), x3, x4]) ⟨K02, S2, F0, [], _, _, hF0, f1, f2, hF2, Nat.le_refl _, fun x hx => absurd hx List.not_mem_nil, rfl⟩ ?_ ?_⟩
    · rintro i σ H3 hi ⟨K3, S3, F, ls, x3, x4, hFn, f1, f2, hF, hll, hb, rfl⟩
      walk_at "hs"
      intro p1 hp1
      have e1 := S3.ne1 hp1
      have e2 := S3.ne2 hp1
      walk_at "hs"
      refine ⟨s, d, 3, _, rfl, S3.new hp1, by decide, by decide, by omega, fun H4 v K4 S4 v0 v1 => ?_⟩
      refine HS.ixI [3, 30, 999999999999999999999999999999] (K4.sq (HS.sq upd_same) (by walk_at "ns")) v0 v1 fun wd _ hw => ?_
      have hwd : 1 ≤ wd ∧ wd < 10 ^ 30 := by
        simp only [List.mem_cons, List.not_mem_nil, or_false] at hw
        omega
      walk_at "hs"
      refine ⟨s, d, wd, _, rfl, S4, by omega, by omega, by omega, fun H5 u K5 S5 u0 u1 => ?_⟩
      have hF5 := K5 _ _ (K4 _ _ (HS.Keep.new (S := fun _ => False) hp1 _ _ hF id) (by walk_at "ns")) (by walk_at "ns")
      have K35 : HS.Keep (fun a => a = s ∨ a = d) H H5 := K3.trans ((HS.Keep.new hp1).trans (K4.trans K5))
      walk_at "hs"
      intro q hq
      have q1 := S5.ne1 hq
      have q2 := S5.ne2 hq
      have hF6 := HS.Keep.new (S := fun _ => False) (o := .lst [.int (1 + u)]) hq _ _ hF5 id
      walk_at "hs"
      refine ⟨s, d, 6, _, rfl, S5.new hq, by decide, by decide, by omega, fun H6 t K6 S6 t0 t1 => ?_⟩
      have hF7 := K6 _ _ hF6 (by walk_at "ns")
      have hq7 := K6 _ _ (upd_same (H := H5) (a := q) (o := .lst [.int (1 + u)])) (by walk_at "ns")
      have K36 : HS.Keep (fun a => a = s ∨ a = d) H H6 := K35.trans ((HS.Keep.new hq).trans K6)
      walk_at "hs"
      intro r hr1
      have r1 := S6.ne1 hr1
      have r2 := S6.ne2 hr1
      have hF8 := HS.Keep.new (S := fun _ => False) (o := .lst [.int 1, .int 1, .int 2, .int (1 + t)]) hr1 _ _ hF7 id
      have hq8 := HS.Keep.new (S := fun _ => False) (o := .lst [.int 1, .int 1, .int 2, .int (1 + t)]) hr1 _ _ hq7 id
      walk_at "hs"
      refine ⟨s, d, 4, _, rfl, S6.new hr1, by decide, by decide, by omega, fun H7 g K7 S7 g0 g1 => ?_⟩
      have hF9 := K7 _ _ hF8 (by walk_at "ns")
      have hq9 := K7 _ _ hq8 (by walk_at "ns")
      have K37 : HS.Keep (fun a => a = s ∨ a = d) H H7 := K36.trans ((HS.Keep.new hr1).trans K7)
      refine HS.ixI [1, 1, 2, 1 + t] (K7.sq (HS.sq upd_same) (by walk_at "ns")) g0 g1 fun y _ hy => ?_
      have hy' : 1 ≤ y ∧ y ≤ 6 := by
        simp only [List.mem_cons, List.not_mem_nil, or_false] at hy
        omega
      refine HS.rep1 hq9 (by omega) (by omega) fun w hw1 => ?_
      have w1 := S7.ne1 hw1
      have w2 := S7.ne2 hw1
      have hF10 := HS.Keep.new (S := fun _ => False) (o := .lst (List.replicate y.toNat (.int (1 + u)))) hw1 _ _ hF9 id
      walk_at "hs"
      have S8 := S7.new (o := .lst (List.replicate y.toNat (.int (1 + u)))) hw1
      have K38 : HS.Keep (fun a => a = s ∨ a = d) H _ := K37.trans (HS.Keep.new (o := .lst (List.replicate y.toNat (.int (1 + u)))) hw1)
      intro z hz
      have z1 := S8.ne1 hz
      have z2 := S8.ne2 hz
      walk_at "hs"
      refine ⟨K38.trans (HS.Keep.new hz), (S8.new hz).up (by omega), z, ls ++ List.replicate y.toNat (1 + u), _, _, K38.free hz (by walk_at "ns"), z1, z2, by rw [upd_same, List.map_append, List.map_replicate], ?_, ?_, rfl⟩
      · rw [List.length_append, List.length_replicate]; omega
      · intro x hx
        rcases List.mem_append.mp hx with hx | hx
        · exact hb x hx
        · have := (List.mem_replicate.mp hx).2; omega
    · rintro σ H3 ⟨K3, S3, F, ls, x3, x4, hFn, f1, f2, hF, hll, hb, rfl⟩
      walk_at "hs"
      intro p hp
      have p1 := S3.ne1 hp
      have p2 := S3.ne2 hp
      refine k _ p (ls.take 40) (K3.trans (HS.Keep.new hp)) (K3.free hp (by walk_at "ns")) p1 p2 ?_ ?_ (take_all hb 40) ((S3.new hp).up (by omega))
      · rw [upd_same, show (40 : Int) = ((40 : Nat) : Int) from rfl, HS.cut_to, List.map_take]
      · rw [List.length_take]; omega
def sp__law_written (K : PySem.W.Frag) : Sp := fun vs H Q _ => ∃ (b : Addr) (ls : List Int), vs = [.ref b] ∧ (SqL K H b (ls.map V.int) ∧ ls.length ≤ 1000 ∧ (∀ x ∈ ls, 0 ≤ x ∧ x < 2 ^ 200) ∧ ∀ H', HS.Keep (fun _ => False) H H' → Q (.str (textOf ls)) H')
theorem ok__law_written (T : Txt K mg A) : FnOk P w K mg base CX0 1 A.a__law_written A.d__law_written ["lengths"] (sp__law_written K) := by
  refine T.F__law_written.ok sc__law_written (fun vs H Q E h => ?_) (fun cdv A0 outer s H vs Q E hr h => ?_)
  · obtain ⟨b, ls, rfl, hw⟩ := h
    rfl
  · obtain ⟨b, ls, rfl, hw⟩ := h
    refine ⟨_, (pss_cons (ps_par (i := 1) (j := 2) rfl sc__law_written.nd rfl rfl (by decide) rfl rfl (pa_cons (pe_lst pa_nil) (pa_cons pe_int pa_nil)) (by rfl))
    (pss_cons (ps_while PassesOwn.never (pt_cmpR op_lt (pv 2) (pe_callB (HS.klen K) (by rfl) T.z_len PySem.boot_len (pa_cons (pv 0) pa_nil)) (nomark _))
      (pss_cons (ps_set (i := 3) sc__law_written.nd rfl (.inl rfl) pe_int)
    (pss_cons (ps_while PassesOwn.never (PW.pt (pw_and (pt_cmpR op_lt (pe_op op_add (pv 2) (pv 3)) (pe_callB (HS.klen K) (by rfl) T.z_len PySem.boot_len (pa_cons (pv 0) pa_nil)) (nomark _)) (pw_and1 (pt_cmpR op_eq (pe_ix (HS.ixl K) (pv 0) (pe_op op_add (pv 2) (pv 3)) (fun _ _ => rfl)) (pe_ix (HS.ixl K) (pv 0) (pv 2) (fun _ _ => rfl)) (nomark _)))))
      (pss_one (ps_set (i := 3) sc__law_written.nd rfl (.inl rfl) (pe_op op_add (pv 3) pe_int))))
    (pss_cons (ps_expr (HS.kbm K (pe_bm PySem.F.plainAttrs_list PySem.F.slot_list_append PySem.F.type_list_append mt_append (pv 1) (pa_cons (pe_ifExp (pt_cmpR op_eq (pv 3) pe_int (nomark _)) (pe_callTy call_str_int (by rfl) T.z_str (by decide +kernel) (pa_cons (pe_ix (HS.ixl K) (pv 0) (pv 2) (fun _ _ => rfl)) pa_nil)) (pe_op op_add_str (pe_op op_add_str (pe_callTy call_str_int (by rfl) T.z_str (by decide +kernel) (pa_cons (pv 3) pa_nil)) pe_str) (pe_callTy call_str_int (by rfl) T.z_str (by decide +kernel) (pa_cons (pe_ix (HS.ixl K) (pv 0) (pv 2) (fun _ _ => rfl)) pa_nil)))) pa_nil))))
    (pss_one (ps_set (i := 2) sc__law_written.nd rfl (.inl rfl) (pe_op op_add (pv 2) (pv 3))))))))
    (pss_one (ps_ret (pe_ifExp (pt_cmpR (HS.kne K (hu64 hr)) (pv 0) (pe_lst pa_nil) (nomark _)) (pe_join pe_str (pv 1)) pe_str))))), ?_⟩
    obtain ⟨hb, hl, hB, k⟩ := hw
    walk_at "hs"
    intro P hP
    have K0 : HS.Keep (fun _ => False) H (upd H P (.lst [])) := .new hP
    have hP0 := upd_same (H := H) (a := P) (o := .lst [])
    generalize upd H P (.lst []) = H0 at K0 hP0 ⊢
    walk_at "hs"
    refine ⟨fun j σ H1 => HS.Keep (fun _ => False) H H1 ∧ ∃ (sp : Nat) (ps : List (Int × Int)) (x3 : Option V), j = ls.length - sp ∧ sp ≤ ls.length ∧ σ = [some (.ref b), some (.ref P), some (.int sp), x3] ∧ H1 P = some (.lst ((ps.map fun p => partS p.1 p.2).map V.str)) ∧ ps ++ runs 0 (ls.drop sp) = runs 0 ls, ⟨_, K0, 0, [], _, rfl, Nat.zero_le _, rfl, hP0, rfl⟩, ?_⟩
    rintro j σ H1 ⟨K1, sp, ps, x3, rfl, hsp, rfl, hP1, hR⟩
    have hb1 := K1.sq hb id
    have psl : ps.length ≤ 1000 := by
      have := congrArg List.length hR
      rw [List.length_append] at this
      have := runs_len ls 0
      omega
    walk_at "hs"
    rw [List.length_map]
    refine HS.itd (fun h => ?_) (fun h => ?_)
    · have hlt : sp < ls.length := by omega
      obtain ⟨z, hz⟩ : ∃ z, ls[sp]? = some z := ⟨_, List.getElem?_eq_getElem hlt⟩
      have hzB := hB z (List.mem_of_getElem? hz)
      refine ⟨fun σ' H' => HS.Keep (fun _ => False) H H' ∧ ∃ (sp' : Nat) (ps : List (Int × Int)) (x3 : Option V), sp < sp' ∧ sp' ≤ ls.length ∧ σ' = [some (.ref b), some (.ref P), some (.int sp'), x3] ∧ H' P = some (.lst ((ps.map fun p => partS p.1 p.2).map V.str)) ∧ ps ++ runs 0 (ls.drop sp') = runs 0 ls, fun σ' H' ⟨K', sp', ps, x3, l1, l2, e, h1, h2⟩ => ⟨ls.length - sp', by omega, K', sp', ps, x3, rfl, l2, e, h1, h2⟩, ?_⟩
      walk_at "hs"
      refine ⟨fun j σ H2 => H2 = H1 ∧ ∃ m : Nat, j = ls.length - m ∧ 1 ≤ m ∧ sp + m ≤ ls.length ∧ σ = [some (.ref b), some (.ref P), some (.int sp), some (.int m)] ∧ runs 0 (ls.drop sp) = runs (m - 1) (ls.drop (sp + m - 1)) ∧ ls[sp + m - 1]? = some z, ⟨_, rfl, 1, rfl, Nat.le_refl _, hlt, rfl, rfl, hz⟩, ?_⟩
      rintro j σ H2 ⟨rfl, m, rfl, hm1, hm2, rfl, hM, hMz⟩
      have drop1 : ls.drop (sp + m - 1) = z :: ls.drop (sp + m) := by
        have hi : sp + m - 1 < ls.length := by omega
        rw [List.drop_eq_getElem_cons hi, show sp + m - 1 + 1 = sp + m by omega]
        congr 1
        rw [List.getElem?_eq_getElem hi] at hMz
        exact Option.some.inj hMz
      rw [drop1, runs, List.head?_drop] at hM
      have done : ls[sp + m]? ≠ some z → (ps ++ [((m : Int), z)]) ++ runs 0 (ls.drop (sp + m)) = runs 0 ls := fun h => by
        rw [if_neg h, show ((m - 1 : Nat) : Int) + 1 = m by omega] at hM
        rw [← hR, hM, List.append_assoc]; rfl
      walk_at "hs"
      rw [List.length_map]
      have finish : ls[sp + m]? ≠ some z → ∀ (Dn : L2.St → Hp → Prop), True := fun _ _ => trivial
      refine HS.itd (fun h3 => ?_) (fun h3 => ?_)
      · walk_at "hs"
        obtain ⟨y, hy⟩ : ∃ y, ls[sp + m]? = some y := ⟨_, List.getElem?_eq_getElem (by omega)⟩
        refine HS.ixZ hb1 (by omega) (by rw [show ((sp : Int) + m).toNat = sp + m by omega]; exact hy) ?_
        walk_at "hs"
        refine HS.ixZ hb1 (by omega) (by rw [show ((sp : Int)).toNat = sp by omega]; exact hz) ?_
        walk_at "hs"
        refine HS.itd (fun h4 => ?_) (fun h4 => ?_)
        · subst h4
          rw [if_pos hy] at hM
          refine ⟨fun σ' H' => H' = H2 ∧ σ' = [some (.ref b), some (.ref P), some (.int sp), some (.int ((m + 1 : Nat) : Int))], fun σ' H' ⟨e1, e2⟩ => ⟨ls.length - (m + 1), by omega, e1, m + 1, rfl, by omega, by omega, e2, by rw [hM, show sp + (m + 1) - 1 = sp + m by omega, show m + 1 - 1 = m - 1 + 1 by omega], by rw [show sp + (m + 1) - 1 = sp + m by omega]; exact hy⟩, ?_⟩
          walk_at "hs"
          exact ⟨rfl, rfl⟩
        · have dn := done (by rw [hy]; intro q; exact h4 (Option.some.inj q))
          walk_at "hs"
          refine HS.iteM (fun v H' => v = .str (partS m z) ∧ H' = H2) (fun hc Q' k' => ?_) (fun hc Q' k' => ?_) ?_
          · walk_at "hs"
            refine HS.ixZ hb1 (by omega) (by rw [show ((sp : Int)).toNat = sp by omega]; exact hz) ?_
            walk_at "hs"
            refine ⟨HS.lg (by omega), ?_⟩
            exact k' _ _ ⟨by rw [show partS m z = numS z from if_pos (of_decide_eq_true hc)]; rfl, rfl⟩
          · have lm := numS_len (z := (m : Int)) (by omega) (by omega)
            have lz := numS_len hzB.1 hzB.2
            walk_at "hs"
            refine ⟨HS.lg (by omega), ?_⟩
            walk_at "hs"
            refine ⟨numS m, _, rfl, rfl, by rw [x_len]; exact HS.szl (by omega), ?_⟩
            walk_at "hs"
            refine HS.ixZ hb1 (by omega) (by rw [show ((sp : Int)).toNat = sp by omega]; exact hz) ?_
            walk_at "hs"
            refine ⟨HS.lg (by omega), ?_⟩
            refine ⟨_, numS z, rfl, rfl, by rw [lenA, x_len]; exact HS.szl (by omega), ?_⟩
            exact k' _ _ ⟨by rw [show partS m z = numS m ++ "x" ++ numS z from if_neg (of_decide_eq_false hc)], rfl⟩
          · rintro v H' ⟨rfl, rfl⟩
            walk_at "hs"
            refine ⟨K1.put hP, sp + m, ps ++ [((m : Int), z)], _, by omega, by omega, by push_cast; rfl, ?_, dn⟩
            rw [upd_same, List.map_append, List.map_append]; rfl
      · have dn := done (by rw [List.getElem?_eq_none (by omega)]; simp)
        walk_at "hs"
        refine HS.iteM (fun v H' => v = .str (partS m z) ∧ H' = H2) (fun hc Q' k' => ?_) (fun hc Q' k' => ?_) ?_
        · walk_at "hs"
          refine HS.ixZ hb1 (by omega) (by rw [show ((sp : Int)).toNat = sp by omega]; exact hz) ?_
          walk_at "hs"
          refine ⟨HS.lg (by omega), ?_⟩
          exact k' _ _ ⟨by rw [show partS m z = numS z from if_pos (of_decide_eq_true hc)]; rfl, rfl⟩
        · have lm := numS_len (z := (m : Int)) (by omega) (by omega)
          have lz := numS_len hzB.1 hzB.2
          walk_at "hs"
          refine ⟨HS.lg (by omega), ?_⟩
          walk_at "hs"
          refine ⟨numS m, _, rfl, rfl, by rw [x_len]; exact HS.szl (by omega), ?_⟩
          walk_at "hs"
          refine HS.ixZ hb1 (by omega) (by rw [show ((sp : Int)).toNat = sp by omega]; exact hz) ?_
          walk_at "hs"
          refine ⟨HS.lg (by omega), ?_⟩
          refine ⟨_, numS z, rfl, rfl, by rw [lenA, x_len]; exact HS.szl (by omega), ?_⟩
          exact k' _ _ ⟨by rw [show partS m z = numS m ++ "x" ++ numS z from if_neg (of_decide_eq_false hc)], rfl⟩
        · rintro v H' ⟨rfl, rfl⟩
          walk_at "hs"
          refine ⟨K1.put hP, sp + m, ps ++ [((m : Int), z)], _, by omega, by omega, by push_cast; rfl, ?_, dn⟩
          rw [upd_same, List.map_append, List.map_append]; rfl
    · have hn : ls.drop sp = [] := List.drop_eq_nil_of_le (by omega)
      rw [hn, runs, List.append_nil] at hR
      subst hR
      walk_at "hs"
      intro q hq
      have hPq := HS.Keep.new (S := fun _ => False) (o := .lst []) hq _ _ hP1 id
      have K2 := K1.trans (HS.Keep.new (o := .lst []) hq)
      have hb2 := K2.sq hb id
      refine HS.neL (ys := []) hb2 (HS.sq upd_same) ?_
      walk_at "hs"
      refine HS.itn (fun e0 => ?_) (fun e0 => ?_)
      · walk_at "hs"
        refine ⟨_, P, partsOf ls, rfl, rfl, .inl (HS.sq hPq), parts_bound hB hl, ?_⟩
        rw [show textOf ls = Txt.join " + " (partsOf ls) from if_neg e0] at k
        exact k _ K2
      · walk_at "hs"
        rw [show textOf ls = "empty" from if_pos e0] at k
        exact k _ K2
def sp_law (K : PySem.W.Frag) : Sp := fun vs H Q _ => ∃ (a : Addr) (ns : List Int), vs = [.ref a] ∧ (SqL K H a (ns.map V.int) ∧ ns.length ≤ 63 ∧ ∀ H', Q (.bl true) H')
theorem ok_law (T : Txt K mg A) : HS.FnG P w K mg base CX0 6 A.a_law A.d_law ["script"] (sp_law K) := by
  have G__law_source : FnOk P w K mg base CX0 1 A.a__law_source A.d__law_source ["script"] (sp__law_source K) := ok__law_source T
  have G__law_book : FnOk P w K mg base CX0 2 A.a__law_book A.d__law_book ["source", "most"] (sp__law_book K) := ok__law_book T
  have G__law_draw : FnOk P w K mg base CX0 1 A.a__law_draw A.d__law_draw ["source", "many"] (sp__law_draw K) := ok__law_draw T
  have G__law_written : FnOk P w K mg base CX0 1 A.a__law_written A.d__law_written ["lengths"] (sp__law_written K) := ok__law_written T
  have G__law_same : FnOk P w K mg base CX0 4 A.a__law_same A.d__law_same ["found", "wanted"] (sp__law_same 3 K) := ok__law_same T 3
  have G_show_book : FnOk P w K mg base CX0 2 A.a_show_book A.d_show_book ["book"] (sp_show_book K) := ok_show_book T
  refine HS.Fun.okG T.F_law sc_law (fun vs H Q E h => ?_) (fun cdv A0 outer s H vs Q E hg hr h => ?_)
  · obtain ⟨a, ns, rfl, hw⟩ := h
    rfl
  · obtain ⟨a, ns, rfl, hw⟩ := h
    refine ⟨_, (pss_cons (ps_set (i := 1) sc_law.nd rfl (.inl rfl) (pe_call G__law_source (hr.mono (by decide)) (by rfl) T.g__law_source T.F__law_source.kp T.b__law_source .nil pass0 (pa_cons (pv 0) pa_nil)))
    (pss_cons (ps_for PassesOwn.never rfl (pi_range1 (by rfl) T.z_range (pa_cons (pe_op op_add pe_int (pe_callB (call_min2 rfl) (by rfl) T.z_min (by decide +kernel) (pa_cons pe_int (pa_cons (pe_callB (HS.klen K) (by rfl) T.z_len PySem.boot_len (pa_cons (pv 0) pa_nil)) pa_nil)))) pa_nil)) (pg_name (i := 2) sc_law.nd rfl (.inl rfl))
      (pss_one (ps_for PassesOwn.never rfl (pi_range1 (by rfl) T.z_range (pa_cons pe_int pa_nil)) (pg_name (i := 3) sc_law.nd rfl (.inl rfl))
      (pss_cons (ps_par (i := 4) (j := 5) rfl sc_law.nd rfl rfl (by decide) rfl rfl (pa_cons (pe_call G__law_book (hr.mono (by decide)) (by rfl) T.g__law_book T.F__law_book.kp T.b__law_book .nil pass0 (pa_cons (pv 1) (pa_cons (pe_ix (HS.ixl K) (pe_lst (pa_cons pe_int (pa_cons pe_int pa_nil))) (pe_call G__law_draw (hr.mono (by decide)) (by rfl) T.g__law_draw T.F__law_draw.kp T.b__law_draw .nil pass0 (pa_cons (pv 1) (pa_cons pe_int pa_nil))) (fun _ _ => rfl)) pa_nil))) (pa_cons (pe_call G__law_book (hr.mono (by decide)) (by rfl) T.g__law_book T.F__law_book.kp T.b__law_book .nil pass0 (pa_cons (pv 1) (pa_cons pe_int pa_nil))) pa_nil)) (by rfl))
    (pss_cons (ps_par (i := 6) (j := 7) rfl sc_law.nd rfl rfl (by decide) rfl rfl (pa_cons (pe_callB (HS.krepr K hg hr) (by rfl) T.z_repr (by decide +kernel) (pa_cons (pv 4) pa_nil)) (pa_cons (pe_call G__law_written (hr.mono (by decide)) (by rfl) T.g__law_written T.F__law_written.kp T.b__law_written .nil pass0 (pa_cons (pv 4) pa_nil)) pa_nil)) (by rfl))
    (pss_cons (ps_if (PW.pt (pw_or (pt_not (pt_val (pe_call G__law_same (hr.mono (by decide)) (by rfl) T.g__law_same T.F__law_same.kp T.b__law_same .nil pass0 (pa_cons (pe_lst (pa_cons (pe_call G_show_book (hr.mono (by decide)) (by rfl) T.g_show_book T.F_show_book.kp T.b_show_book .nil pass0 (pa_cons (pv 4) pa_nil)) (pa_cons (HS.pe_kw0 G_show_book (hr.mono (by decide)) (by rfl) T.g_show_book T.F_show_book.kp T.kb_show_book_0_book pass0 (pk_cons (pv 4) pk_nil)) pa_nil))) (pa_cons (pe_op op_rep (pe_lst (pa_cons (pv 7) pa_nil)) pe_int) pa_nil))))) (pw_or1 (pt_cmpR op_ne (pe_callB (HS.krepr K hg hr) (by rfl) T.z_repr (by decide +kernel) (pa_cons (pv 4) pa_nil)) (pv 6) (nomark _)))))
      (pss_one (ps_ret pe_bl))
      pss_nil)
    (pss_one (ps_if (pt_cmpR op_ne (pe_cmpR op_eq (pe_call G_show_book (hr.mono (by decide)) (by rfl) T.g_show_book T.F_show_book.kp T.b_show_book .nil pass0 (pa_cons (pv 5) pa_nil)) (pv 7) (nomark _)) (pe_cmpR (HS.keq K (hu64 hr)) (pv 5) (pv 4) (nomark _)) (nomark _))
      (pss_one (ps_ret pe_bl))
      pss_nil))))))))
    (pss_one (ps_ret (pe_and (pe_cmpR op_eq (pe_call G_show_book (hr.mono (by decide)) (by rfl) T.g_show_book T.F_show_book.kp T.b_show_book .nil pass0 (pa_cons (pe_lst pa_nil) pa_nil)) pe_str (nomark _)) (pe_one (pe_cmpR op_eq (pe_call G_show_book (hr.mono (by decide)) (by rfl) T.g_show_book T.F_show_book.kp T.b_show_book .nil pass0 (pa_cons (pe_lst (pa_cons pe_int (pa_cons pe_int (pa_cons pe_int (pa_cons pe_int pa_nil))))) pa_nil)) pe_str (nomark _)))))))), ?_⟩
    obtain ⟨hS, hl, k⟩ := hw
    walk_at "hs"
    refine ⟨a, ns, rfl, hS, hl, fun H1 s d K1 hs hd S1 => ?_⟩
    have hS1 := K1.sq hS id
    walk_at "hs"
    rw [List.length_map]
    refine ⟨by split <;> omega, by split <;> omega, for_range (n := _) (fun i σ H' => Src H' s d (5000 * i) ∧ ∃ x2 x3 x4 x5 x6 x7, σ = [some (.ref a), some (.ref s), x2, x3, x4, x5, x6, x7]) ⟨S1, _, _, _, _, _, _, rfl⟩ ?_ ?_⟩
    · rintro i σ H2 hi ⟨S2, x2, x3, x4, x5, x6, x7, rfl⟩
      have hi' : i < 11 := by split at hi <;> omega
      walk_at "hs"
      refine ⟨by decide, by decide, for_range (n := 6) (fun t σ H' => Src H' s d (5000 * i + 810 * t) ∧ ∃ x3 x4 x5 x6 x7, σ = [some (.ref a), some (.ref s), some (.int (0 + (i : Int))), x3, x4, x5, x6, x7]) ⟨S2, _, _, _, _, _, rfl⟩ ?_ ?_⟩
      · rintro t σ H3 ht ⟨S3, x3, x4, x5, x6, x7, rfl⟩
        walk_at "hs"
        intro p1 hp1
        have e1 := S3.ne1 hp1
        have e2 := S3.ne2 hp1
        walk_at "hs"
        refine ⟨s, d, 2, _, rfl, S3.new hp1, by decide, by decide, by omega, fun H4 v K4 S4 v0 v1 => ?_⟩
        refine HS.ixI [3, 20] (K4.sq (HS.sq upd_same) (by walk_at "ns")) v0 v1 fun mt _ hmt => ?_
        have hmt' : 3 ≤ mt ∧ mt ≤ 20 := by simp only [List.mem_cons, List.not_mem_nil, or_false] at hmt; omega
        walk_at "hs"
        refine ⟨s, d, mt, _, rfl, S4, by omega, by omega, by omega, fun H5 b ls K5 _ b1 b2 hb hbl hbB S5 => ?_⟩
        walk_at "hs"
        refine ⟨s, d, 2, _, rfl, S5, by decide, by decide, by omega, fun H6 c xs K6 _ c1 c2 hc hcl hcB S6 => ?_⟩
        have hb6 := K6 _ _ hb (by walk_at "ns")
        have lB : ∀ x ∈ ls, 0 ≤ x ∧ x < 2 ^ 200 := fun x hx => by have := hbB x hx; omega
        have cB : ∀ x ∈ xs, 0 ≤ x ∧ x < 2 ^ 200 := fun x hx => by have := hcB x hx; omega
        have tm : HS.Tm ls := ⟨fun x hx => by have := lB x hx; omega, by omega⟩
        walk_at "hs"
        refine HS.repI (HS.sq hb6) tm ?_
        walk_at "hs"
        refine ⟨b, ls, rfl, HS.sq hb6, by omega, lB, fun H7 K7 => ?_⟩
        replace hb6 := K7 _ _ hb6 id
        replace hc := K7 _ _ hc id
        replace S6 := S6.same K7
        walk_at "hs"
        refine ⟨b, ls, rfl, HS.sq hb6, by omega, lB, fun H8 K8 => ?_⟩
        replace hb6 := K8 _ _ hb6 id
        replace hc := K8 _ _ hc id
        replace S6 := S6.same K8
        walk_at "hs"
        refine ⟨b, ls, rfl, HS.sq hb6, by omega, lB, fun H9 K9 => ?_⟩
        replace hb6 := K9 _ _ hb6 id
        replace hc := K9 _ _ hc id
        replace S6 := S6.same K9
        walk_at "hs"
        intro q1 hq1
        generalize hG_q1 : upd _ q1 _ = H10
        have at_q1 := HS.upgs hG_q1
        have Kn_q1 := HS.upgK hG_q1 hq1
        clear hG_q1
        replace hb6 := Kn_q1 _ _ hb6 id
        replace hc := Kn_q1 _ _ hc id
        walk_at "hs"
        intro q2 hq2
        generalize hG_q2 : upd _ q2 _ = H11
        have at_q2 := HS.upgs hG_q2
        have Kn_q2 := HS.upgK hG_q2 hq2
        clear hG_q2
        replace hb6 := Kn_q2 _ _ hb6 id
        replace hc := Kn_q2 _ _ hc id
        replace at_q1 := Kn_q2 _ _ at_q1 id
        walk_at "hs"
        refine HS.rep1 at_q2 (by decide) (by decide) ?_
        intro q3 hq3
        generalize hG_q3 : upd _ q3 _ = H12
        have at_q3 := HS.upgs hG_q3
        have Kn_q3 := HS.upgK hG_q3 hq3
        clear hG_q3
        replace hb6 := Kn_q3 _ _ hb6 id
        replace hc := Kn_q3 _ _ hc id
        replace at_q1 := Kn_q3 _ _ at_q1 id
        walk_at "hs"
        refine ⟨.ref q1, .ref q3, rfl, .lst at_q1 at_q3 rfl (show 2 ≤ 1000 by decide) fun i x y h1 h2 => ?_, fun H13 K13 => ?_⟩
        · have h2' : [V.str (textOf ls), V.str (textOf ls)][i]? = some y := h2
          rw [h1] at h2'
          cases h2'
          match i, h1 with
          | 0, h1 => cases h1; exact .str _
          | 1, h1 => cases h1; exact .str _
          | _ + 2, h1 => cases h1
        have S7 := S6.same (Kn_q1.trans (Kn_q2.trans (Kn_q3.trans K13)))
        replace hb6 := K13 _ _ hb6 id
        replace hc := K13 _ _ hc id
        walk_at "hs"
        refine HS.repI (HS.sq hb6) tm ?_
        walk_at "hs"
        refine HS.neSS ?_
        walk_at "hs"
        refine ⟨c, xs, rfl, HS.sq hc, by omega, cB, fun H14 K14 => ?_⟩
        replace hb6 := K14 _ _ hb6 id
        replace hc := K14 _ _ hc id
        replace S7 := S7.same K14
        walk_at "hs"
        refine HS.eqStr ?_
        walk_at "hs"
        refine HS.eqL (HS.sq hc) (HS.sq hb6) ?_
        rw [show decide (textOf xs = textOf ls) = decide (xs = ls) from decide_eq_decide.mpr (textOf_inj (fun x hx => (cB x hx).1) fun x hx => (lB x hx).1)]
        refine HS.neB ?_
        rw [decide_eq_true rfl]
        walk_at "hs"
        exact ⟨S7.up (by omega), _, _, _, _, _, rfl⟩
      · rintro σ H3 ⟨S3, x3, x4, x5, x6, x7, rfl⟩
        walk_at "hs"
        exact ⟨S3.up (by omega), _, _, _, _, _, _, rfl⟩
    · rintro σ H2 ⟨S2, x2, x3, x4, x5, x6, x7, rfl⟩
      walk_at "hs"
      intro p1 hp1
      generalize hG_p1 : upd _ p1 _ = H3
      have at_p1 := HS.upgs hG_p1
      have Kn_p1 := HS.upgK hG_p1 hp1
      clear hG_p1
      walk_at "hs"
      refine ⟨p1, [], rfl, HS.sq at_p1, by decide, fun _ h => absurd h List.not_mem_nil, fun H4 K4 => ?_⟩
      walk_at "hs"
      refine HS.eqStr ?_
      rw [decide_eq_true (show textOf [] = ("empty" : PySem.Str) from if_pos rfl)]
      walk_at "hs"
      intro p2 hp2
      generalize hG_p2 : upd _ p2 _ = H5
      have at_p2 := HS.upgs hG_p2
      have Kn_p2 := HS.upgK hG_p2 hp2
      clear hG_p2
      walk_at "hs"
      refine ⟨p2, [5, 3, 3, 5], rfl, HS.sq at_p2, by decide, fun x h => by simp only [List.mem_cons, List.not_mem_nil, or_false] at h; omega, fun H6 K6 => ?_⟩
      walk_at "hs"
      refine HS.eqStr ?_
      rw [decide_eq_true text_5335]
      exact k _
end
theorem all_mk {l : PySem.W.OpenLaw} {w : World} {K : PySem.W.Frag} {h : Heap} {mg : Str → Option Value} {fa f0 f1 f2 f3 f4 f5 f6 f7 : Addr} (X : K.In h) (G : h.Ns mainGlobals mg) (hfa : mg "law" = some (.ref fa))
    {od0 an0 od1 an1 od2 an2 od3 an3 od4 an4 od5 an5 od6 an6 od7 an7 : Option Addr} {sl0 sl1 sl2 sl3 sl4 sl5 sl6 sl7 : Array (Option Value)} {oc0 kV0 dc0 pm0 cd0 ct0 oc1 kV1 dc1 pm1 cd1 ct1 oc2 kV2 dc2 pm2 cd2 ct2 oc3 kV3 dc3 pm3 cd3 ct3 oc4 kV4 dc4 pm4 cd4 ct4 oc5 kV5 dc5 pm5 cd5 ct5 oc6 kV6 dc6 pm6 cd6 ct6 oc7 kV7 dc7 pm7 cd7 ct7 : Value}
    (a0 : PySem.W.nsIn K mainGlobals "show_chapters" = some (some (.ref f0)))
    (l0 : K.lookup f0 = some ⟨oc0, od0, .func (PySem.W.fnOf "show_chapters" "show_chapters" (defArgs s_show_chapters) (defBody s_show_chapters) (defScope s_show_chapters) .none kV0 dc0 pm0 an0 cd0 ct0), sl0⟩) (c0 : PySem.W.codeIn K cd0 "show_chapters" = true) (k0 : PySem.W.keepIn K (.ref f0) = true)
    (a1 : PySem.W.nsIn K mainGlobals "show_book" = some (some (.ref f1)))
    (l1 : K.lookup f1 = some ⟨oc1, od1, .func (PySem.W.fnOf "show_book" "show_book" (defArgs s_show_book) (defBody s_show_book) (defScope s_show_book) .none kV1 dc1 pm1 an1 cd1 ct1), sl1⟩) (c1 : PySem.W.codeIn K cd1 "show_book" = true) (k1 : PySem.W.keepIn K (.ref f1) = true)
    (a2 : PySem.W.nsIn K mainGlobals "_law_source" = some (some (.ref f2)))
    (l2 : K.lookup f2 = some ⟨oc2, od2, .func (PySem.W.fnOf "_law_source" "_law_source" (defArgs s__law_source) (defBody s__law_source) (defScope s__law_source) .none kV2 dc2 pm2 an2 cd2 ct2), sl2⟩) (c2 : PySem.W.codeIn K cd2 "_law_source" = true) (k2 : PySem.W.keepIn K (.ref f2) = true)
    (a3 : PySem.W.nsIn K mainGlobals "_law_draw" = some (some (.ref f3)))
    (l3 : K.lookup f3 = some ⟨oc3, od3, .func (PySem.W.fnOf "_law_draw" "_law_draw" (defArgs s__law_draw) (defBody s__law_draw) (defScope s__law_draw) .none kV3 dc3 pm3 an3 cd3 ct3), sl3⟩) (c3 : PySem.W.codeIn K cd3 "_law_draw" = true) (k3 : PySem.W.keepIn K (.ref f3) = true)
    (a4 : PySem.W.nsIn K mainGlobals "_law_same" = some (some (.ref f4)))
    (l4 : K.lookup f4 = some ⟨oc4, od4, .func (PySem.W.fnOf "_law_same" "_law_same" (defArgs s__law_same) (defBody s__law_same) (defScope s__law_same) .none kV4 dc4 pm4 an4 cd4 ct4), sl4⟩) (c4 : PySem.W.codeIn K cd4 "_law_same" = true) (k4 : PySem.W.keepIn K (.ref f4) = true)
    (a5 : PySem.W.nsIn K mainGlobals "_law_book" = some (some (.ref f5)))
    (l5 : K.lookup f5 = some ⟨oc5, od5, .func (PySem.W.fnOf "_law_book" "_law_book" (defArgs s__law_book) (defBody s__law_book) (defScope s__law_book) .none kV5 dc5 pm5 an5 cd5 ct5), sl5⟩) (c5 : PySem.W.codeIn K cd5 "_law_book" = true) (k5 : PySem.W.keepIn K (.ref f5) = true)
    (a6 : PySem.W.nsIn K mainGlobals "_law_written" = some (some (.ref f6)))
    (l6 : K.lookup f6 = some ⟨oc6, od6, .func (PySem.W.fnOf "_law_written" "_law_written" (defArgs s__law_written) (defBody s__law_written) (defScope s__law_written) .none kV6 dc6 pm6 an6 cd6 ct6), sl6⟩) (c6 : PySem.W.codeIn K cd6 "_law_written" = true) (k6 : PySem.W.keepIn K (.ref f6) = true)
    (a7 : PySem.W.nsIn K mainGlobals "law" = some (some (.ref f7)))
    (l7 : K.lookup f7 = some ⟨oc7, od7, .func (PySem.W.fnOf "law" "law" (defArgs s_law) (defBody s_law) (defScope s_law) .none kV7 dc7 pm7 an7 cd7 ct7), sl7⟩) (c7 : PySem.W.codeIn K cd7 "law" = true) (k7 : PySem.W.keepIn K (.ref f7) = true)
    (z0 : PySem.W.nsIn K mainGlobals "bool" = some none)
    (z1 : PySem.W.nsIn K mainGlobals "enumerate" = some none)
    (z2 : PySem.W.nsIn K mainGlobals "int" = some none)
    (z3 : PySem.W.nsIn K mainGlobals "isinstance" = some none)
    (z4 : PySem.W.nsIn K mainGlobals "len" = some none)
    (z5 : PySem.W.nsIn K mainGlobals "list" = some none)
    (z6 : PySem.W.nsIn K mainGlobals "max" = some none)
    (z7 : PySem.W.nsIn K mainGlobals "min" = some none)
    (z8 : PySem.W.nsIn K mainGlobals "range" = some none)
    (z9 : PySem.W.nsIn K mainGlobals "repr" = some none)
    (z10 : PySem.W.nsIn K mainGlobals "str" = some none)
    (z11 : PySem.W.nsIn K mainGlobals "tuple" = some none)
    : ∃ fd : FuncData, (∀ (s : Shared) (v : Value), BindsTo s fd ⟨[v], []⟩ [("script", v)]) ∧ ∀ base : Heap, K.In base → base.Ns mainGlobals mg → HS.FnG l.prog w K mg base CX0 6 fa fd ["script"] (sp_law K) := by
  have e := hfa.symm.trans (PySem.W.mg_of X G a7)
  cases e
  have F0 := fun_mk (st := s_show_chapters) l0 c0 k0
  have F1 := fun_mk (st := s_show_book) l1 c1 k1
  have F2 := fun_mk (st := s__law_source) l2 c2 k2
  have F3 := fun_mk (st := s__law_draw) l3 c3 k3
  have F4 := fun_mk (st := s__law_same) l4 c4 k4
  have F5 := fun_mk (st := s__law_book) l5 c5 k5
  have F6 := fun_mk (st := s__law_written) l6 c6 k6
  have F7 := fun_mk (st := s_law) l7 c7 k7
  have T : Txt K mg ⟨f0, PySem.W.fnOf "show_chapters" "show_chapters" (defArgs s_show_chapters) (defBody s_show_chapters) (defScope s_show_chapters) .none kV0 dc0 pm0 an0 cd0 ct0, f1, PySem.W.fnOf "show_book" "show_book" (defArgs s_show_book) (defBody s_show_book) (defScope s_show_book) .none kV1 dc1 pm1 an1 cd1 ct1, f2, PySem.W.fnOf "_law_source" "_law_source" (defArgs s__law_source) (defBody s__law_source) (defScope s__law_source) .none kV2 dc2 pm2 an2 cd2 ct2, f3, PySem.W.fnOf "_law_draw" "_law_draw" (defArgs s__law_draw) (defBody s__law_draw) (defScope s__law_draw) .none kV3 dc3 pm3 an3 cd3 ct3, f4, PySem.W.fnOf "_law_same" "_law_same" (defArgs s__law_same) (defBody s__law_same) (defScope s__law_same) .none kV4 dc4 pm4 an4 cd4 ct4, f5, PySem.W.fnOf "_law_book" "_law_book" (defArgs s__law_book) (defBody s__law_book) (defScope s__law_book) .none kV5 dc5 pm5 an5 cd5 ct5, f6, PySem.W.fnOf "_law_written" "_law_written" (defArgs s__law_written) (defBody s__law_written) (defScope s__law_written) .none kV6 dc6 pm6 an6 cd6 ct6, fa, PySem.W.fnOf "law" "law" (defArgs s_law) (defBody s_law) (defScope s_law) .none kV7 dc7 pm7 an7 cd7 ct7⟩ :=
    { F_show_chapters := F0,
      g_show_chapters := PySem.W.mg_of X G a0,
      b_show_chapters := F0.binds (ps := ["many", "length"]) fun _ _ _ _ _ _ us hl => match us, hl with | [_, _], _ => rfl,
      F_show_book := F1,
      g_show_book := PySem.W.mg_of X G a1,
      b_show_book := F1.binds (ps := ["book"]) fun _ _ _ _ _ _ us hl => match us, hl with | [_], _ => rfl,
      F__law_source := F2,
      g__law_source := PySem.W.mg_of X G a2,
      b__law_source := F2.binds (ps := ["script"]) fun _ _ _ _ _ _ us hl => match us, hl with | [_], _ => rfl,
      F__law_draw := F3,
      g__law_draw := PySem.W.mg_of X G a3,
      b__law_draw := F3.binds (ps := ["source", "many"]) fun _ _ _ _ _ _ us hl => match us, hl with | [_, _], _ => rfl,
      F__law_same := F4,
      g__law_same := PySem.W.mg_of X G a4,
      b__law_same := F4.binds (ps := ["found", "wanted"]) fun _ _ _ _ _ _ us hl => match us, hl with | [_, _], _ => rfl,
      F__law_book := F5,
      g__law_book := PySem.W.mg_of X G a5,
      b__law_book := F5.binds (ps := ["source", "most"]) fun _ _ _ _ _ _ us hl => match us, hl with | [_, _], _ => rfl,
      F__law_written := F6,
      g__law_written := PySem.W.mg_of X G a6,
      b__law_written := F6.binds (ps := ["lengths"]) fun _ _ _ _ _ _ us hl => match us, hl with | [_], _ => rfl,
      F_law := F7,
      g_law := PySem.W.mg_of X G a7,
      b_law := F7.binds (ps := ["script"]) fun _ _ _ _ _ _ us hl => match us, hl with | [_], _ => rfl,
      z_bool := PySem.W.mg_none_of X G z0,
      z_enumerate := PySem.W.mg_none_of X G z1,
      z_int := PySem.W.mg_none_of X G z2,
      z_isinstance := PySem.W.mg_none_of X G z3,
      z_len := PySem.W.mg_none_of X G z4,
      z_list := PySem.W.mg_none_of X G z5,
      z_max := PySem.W.mg_none_of X G z6,
      z_min := PySem.W.mg_none_of X G z7,
      z_range := PySem.W.mg_none_of X G z8,
      z_repr := PySem.W.mg_none_of X G z9,
      z_str := PySem.W.mg_none_of X G z10,
      z_tuple := PySem.W.mg_none_of X G z11,
      kb_show_book_0_book := ⟨fun s us ws h1 h2 => match us, ws, h1, h2 with | [], [_], _, _ => .of_eq rfl, fun r1 r2 => .cons (HS.relAt r2 0) (.nil)⟩ }
  exact ⟨_, fun s v => .of_eq rfl, fun base _ _ => ok_law T⟩
end WK40
open PySem PySem.W PyProof.Rows
set_option maxHeartbeats 0 in
theorem PySem.Challenge.cw_pagecounts_k40_texts_shown_holds : PySem.Challenge.rw_pagecounts_k40_texts_shown.Holds := by
  w_on; o_law; k_head; (case hw => w_witness2)
  k_fill
  refine HS.walk_ofG (l := PySem.Challenge.rw_pagecounts_k40_texts_shown) (n := 63) (k := 6) (x := "script") (CX := fun _ => L2.CX0) (sp := fun w => WK40.sp_law _) rfl (by decide) rfl ⟨rfl, by decide, by decide⟩ (fun w h Y => PySem.W.kIn_of Y) ?F (fun _ _ a ns hl _ hS => ⟨a, ns, rfl, hS, hl, fun _ => rfl⟩) (fun _ _ _ _ _ h => h)
  case F =>
    intro w mg fa h KX G hmg
    refine' WK40.all_mk KX G hmg ?a0 ?l0 ?c0 ?k0 ?a1 ?l1 ?c1 ?k1 ?a2 ?l2 ?c2 ?k2 ?a3 ?l3 ?c3 ?k3 ?a4 ?l4 ?c4 ?k4 ?a5 ?l5 ?c5 ?k5 ?a6 ?l6 ?c6 ?k6 ?a7 ?l7 ?c7 ?k7 ?z0 ?z1 ?z2 ?z3 ?z4 ?z5 ?z6 ?z7 ?z8 ?z9 ?z10 ?z11
    (case a0 => k_is); (case l0 => k_is); (case c0 => k_is); (case k0 => k_is); (case a1 => k_is); (case l1 => k_is); (case c1 => k_is); (case k1 => k_is); (case a2 => k_is); (case l2 => k_is); (case c2 => k_is); (case k2 => k_is); (case a3 => k_is); (case l3 => k_is); (case c3 => k_is); (case k3 => k_is); (case a4 => k_is); (case l4 => k_is); (case c4 => k_is); (case k4 => k_is); (case a5 => k_is); (case l5 => k_is); (case c5 => k_is); (case k5 => k_is); (case a6 => k_is); (case l6 => k_is); (case c6 => k_is); (case k6 => k_is); (case a7 => k_is); (case l7 => k_is); (case c7 => k_is); (case k7 => k_is); (case z0 => k_is); (case z1 => k_is); (case z2 => k_is); (case z3 => k_is); (case z4 => k_is); (case z5 => k_is); (case z6 => k_is); (case z7 => k_is); (case z8 => k_is); (case z9 => k_is); (case z10 => k_is); (case z11 => k_is)

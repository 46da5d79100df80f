import PyProof.Rows.All
import Wide.All
import OpenK.AllK
import Wide.FinOn
import HandS.Evl
import HandS.GenList
import HandS.Walk
import HandS.WordsExc
import HandS.ForMost
import HandS.Wide
import HandS.Style
import PySem.Challenge.RW_pagecounts_k05_whole_pages_and_longer_ch
set_option Elab.async false
set_option linter.all false
set_option maxRecDepth 100000
set_option maxHeartbeats 4000000
/-! Readings, step by step, from their heads (own lemmas over HandS). -/
namespace HS
open PySem PySem.Spec PyProof.Rows L2
section
variable {σ : L2.St} {H : Hp} {Q : VK} {t u : TS} {te ta tb tx : TE} {tt tv : TT} {n bk ct : L2.St → Hp → Prop} {rt : VK} {K : PySem.W.Frag}
theorem seq (h : t ⟨u ⟨n, rt, bk, ct⟩, rt, bk, ct⟩ σ H) : tSeq t u ⟨n, rt, bk, ct⟩ σ H := h
theorem nxt (h : n σ H) : tNext ⟨n, rt, bk, ct⟩ σ H := h
theorem brk (h : bk σ H) : tBreak ⟨n, rt, bk, ct⟩ σ H := h
theorem cnt (h : ct σ H) : tCont ⟨n, rt, bk, ct⟩ σ H := h
theorem asg {g : TG} (h : te σ H fun x H1 => g x σ H1 n) : tAsg te g ⟨n, rt, bk, ct⟩ σ H := h
theorem nm {v : V} {i : Nat} {q : L2.St → Hp → Prop} (h : q (σ.set i (some v)) H) : gName i v σ H q := h
theorem sub {to ti : TE} {ts : TSet} {v : V} {q : L2.St → Hp → Prop} (h : to σ H fun o H1 => ti σ H1 fun i H2 => ts o i v H2 fun H3 => q σ H3) : gSub to ti ts v σ H q := h
theorem var {i : Nat} {v : V} (h : σ[i]? = some (some v)) (q : Q v H) : tVar i σ H Q := ⟨v, h, q⟩
theorem cst {v : V} (q : Q v H) : tC v σ H Q := q
theorem op {r : R2} (h : ta σ H fun x H1 => tb σ H1 fun y H2 => r x y H2 Q) : tOp r ta tb σ H Q := h
theorem un {r : V → Hp → VK → Prop} (h : ta σ H fun x H1 => r x H1 Q) : tUn r ta σ H Q := h
theorem i0 {g : Int → Int → V} {i j : Int} (q : Q (g i j) H) : rI0 g (.int i) (.int j) H Q := ⟨i, j, rfl, rfl, q⟩
theorem i1 {C : Int → Int → Prop} {g : Int → Int → V} {i j : Int} (q : C i j ∧ Q (g i j) H) : rI C g (.int i) (.int j) H Q := ⟨i, j, rfl, rfl, q⟩
theorem u0 {g : Int → V} {i : Int} (q : Q (g i) H) : rU g (.int i) H Q := ⟨i, rfl, q⟩
theorem eqI {i j : Int} (q : Q (.bl (decide (i = j))) H) : rEq (.int i) (.int j) H Q := ⟨rfl, by
  have e : decide ((V.int i) = V.int j) = decide (i = j) := by
    by_cases h : i = j
    · rw [h]; simp
    · have h2 : ¬ (V.int i = V.int j) := fun z => h (V.int.inj z)
      rw [decide_eq_false h, decide_eq_false h2]
  rw [e]; exact q⟩
theorem neI {i j : Int} (q : Q (.bl (!decide (i = j))) H) : rNe (.int i) (.int j) H Q := ⟨rfl, by
  have e : decide ((V.int i) = V.int j) = decide (i = j) := by
    by_cases h : i = j
    · rw [h]; simp
    · have h2 : ¬ (V.int i = V.int j) := fun z => h (V.int.inj z)
      rw [decide_eq_false h, decide_eq_false h2]
  rw [e]; exact q⟩
theorem tst {q : Bool → Hp → Prop} (h : te σ H fun x H' => ∃ k, x = .bl k ∧ q k H') : tTest te σ H q := h
theorem tb1 {q : Bool → Hp → Prop} (h : te σ H fun x H' => ∃ k, x = .bl k ∧ q k H') : tB te σ H q := h
theorem bex {b : Bool} {q : Bool → Prop} (h : q b) : ∃ k, V.bl b = V.bl k ∧ q k := ⟨b, rfl, h⟩
theorem ifs (h : tt σ H fun b H1 => if b = true then t ⟨n, rt, bk, ct⟩ σ H1 else u ⟨n, rt, bk, ct⟩ σ H1) : tIfS tt t u ⟨n, rt, bk, ct⟩ σ H := h
theorem ife (h : tt σ H fun b H1 => if b = true then ta σ H1 Q else tb σ H1 Q) : tIf tt ta tb σ H Q := h
theorem and {q : Bool → Hp → Prop} (h : tt σ H fun c H1 => if c = true then tv σ H1 q else q false H1) : tAnd tt tv σ H q := h
theorem or {q : Bool → Hp → Prop} (h : tt σ H fun c H1 => if c = true then q true H1 else tv σ H1 q) : tOr tt tv σ H q := h
theorem not {q : Bool → Hp → Prop} (h : tt σ H fun c H1 => q (!c) H1) : tNot tt σ H q := h
theorem andV (h : ta σ H fun x H1 => ∃ c, x = .bl c ∧ if c = true then tb σ H1 Q else Q (.bl false) H1) : tAndV ta tb σ H Q := h
theorem orV (h : ta σ H fun x H1 => ∃ c, x = .bl c ∧ if c = true then Q (.bl true) H1 else tb σ H1 Q) : tOrV ta tb σ H Q := h
theorem notV (h : ta σ H fun x H1 => ∃ c, x = .bl c ∧ Q (.bl (!c)) H1) : tNotV ta σ H Q := h
theorem chn {r r' : R2} {tc : TE} (h : ta σ H fun x H1 => tb σ H1 fun y H2 => r x y H2 fun z H3 => ∃ k, z = .bl k ∧ if k = true then tc σ H3 fun w H4 => r' y w H4 Q else Q (.bl false) H3) : tChain r r' ta tb tc σ H Q := h
theorem ret (h : te σ H rt) : tRet te ⟨n, rt, bk, ct⟩ σ H := h
theorem retN (h : rt .non H) : tRetN ⟨n, rt, bk, ct⟩ σ H := h
theorem drp (h : te σ H fun _ H1 => n σ H1) : tDrop te ⟨n, rt, bk, ct⟩ σ H := h
theorem cb {r : List V → Hp → VK → Prop} {tl : TA} (h : tl σ H fun vs H1 => r vs H1 Q) : tCB r tl σ H Q := h
theorem anil {q : List V → Hp → Prop} (h : q [] H) : tNil σ H q := h
theorem acons {tl : TA} {q : List V → Hp → Prop} (h : te σ H fun x H1 => tl σ H1 fun xs H2 => q (x :: xs) H2) : tCons te tl σ H q := h
theorem cal {sp : Sp} {E : XK} {tl : TA} (h : tl σ H fun vs H1 => sp vs H1 Q E) : tCall sp [] E tl σ H Q := by
  show tl σ H fun vs H1 => sp (vs ++ []) H1 Q E
  simp only [List.append_nil]; exact h
theorem tup {tl : TA} (h : tl σ H fun xs H1 => xs.length ≤ sizeLine ∧ ∀ p, H1 p = none → Q (.ref p) (upd H1 p (.tup xs))) : tTup tl σ H Q := h
theorem lst {tl : TA} (h : tl σ H fun xs H1 => xs.length ≤ sizeLine ∧ ∀ p, H1 p = none → Q (.ref p) (upd H1 p (.lst xs))) : tLst tl σ H Q := h
theorem par {i j : Nat} {tl : TA} (h : tl σ H fun vs H1 => ∃ v w, vs = [v, w] ∧ n ((σ.set i (some v)).set j (some w)) H1) : tPar i j tl ⟨n, rt, bk, ct⟩ σ H := h
theorem ex2 {v w : V} {q : V → V → Prop} (h : q v w) : ∃ a b, [v, w] = [a, b] ∧ q a b := ⟨v, w, rfl, h⟩
theorem aug {i : Nat} {ti : TIp} {x : V} (e : σ[i]? = some (some x)) (h : te σ H fun y H1 => ti x y H1 fun z H2 => n (σ.set i (some z)) H2) : tAug i te ti ⟨n, rt, bk, ct⟩ σ H := ⟨x, e, h⟩
theorem ipi {f : Int → Int → Int} {i j : Int} (q : Q (.int (f i j)) H) : ipI f (.int i) (.int j) H Q := ⟨i, j, rfl, rfl, q⟩
theorem addI {i j : Int} (q : Q (.int (i + j)) H) : rAdd (.int i) (.int j) H Q := ⟨i, j, rfl, rfl, q⟩
theorem ixL {p : Addr} {xs : List V} {i : Int} {v : V} (h : SqL K H p xs) (e : atI xs i = some v) (q : Q v H) : rIxL K (.ref p) (.int i) H Q := ⟨p, xs, i, v, rfl, rfl, h, e, q⟩
theorem ixT {p : Addr} {xs : List V} {i : Int} {v : V} (h : SqT K H p xs) (e : atI xs i = some v) (q : Q v H) : rIxT K (.ref p) (.int i) H Q := ⟨p, xs, i, v, rfl, rfl, h, e, q⟩
/-- an if over a decided thing -/
theorem itd {c A B : Prop} [Decidable c] (h1 : c → A) (h2 : ¬ c → B) : if decide c = true then A else B := by
  by_cases h : c
  · rw [decide_eq_true h, if_pos rfl]; exact h1 h
  · rw [decide_eq_false h, if_neg Bool.false_ne_true]; exact h2 h
theorem itn {c A B : Prop} [Decidable c] (h1 : ¬ c → A) (h2 : c → B) : if (!decide c) = true then A else B := by
  by_cases h : c
  · rw [decide_eq_true h]; exact iteF (h2 h)
  · rw [decide_eq_false h]; exact iteT (h1 h)
theorem it1 {c A B : Prop} [Decidable c] (hc : c) (h : A) : if decide c = true then A else B := itd (fun _ => h) fun z => absurd hc z
theorem it0 {c A B : Prop} [Decidable c] (hc : ¬ c) (h : B) : if decide c = true then A else B := itd (fun z => absurd z hc) fun _ => h
theorem in1 {c A B : Prop} [Decidable c] (hc : ¬ c) (h : A) : if (!decide c) = true then A else B := itn (fun _ => h) fun z => absurd z hc
theorem in0 {c A B : Prop} [Decidable c] (hc : c) (h : B) : if (!decide c) = true then A else B := itn (fun z => absurd hc z) fun _ => h
end
/-! ### heaps: all but S stands -/
def Keep (S : Addr → Prop) (H H' : Hp) : Prop := ∀ a o, H a = some o → ¬ S a → H' a = some o
section
variable {S : Addr → Prop} {H H1 H2 : Hp} {p q : Addr} {o u : HO}
theorem Keep.refl : Keep S H H := fun _ _ h _ => h
theorem Keep.trans (a : Keep S H H1) (b : Keep S H1 H2) : Keep S H H2 := fun x o h n => b x o (a x o h n) n
theorem Keep.new (h : H p = none) : Keep S H (upd H p o) := fun a u e _ => by rw [upd_ne (ne_of_none e h)]; exact e
theorem Keep.put (k : Keep S H H1) (h : H p = none) : Keep S H (upd H1 p o) := fun a u e n => by rw [upd_ne (ne_of_none e h)]; exact k a u e n
theorem Keep.at (k : Keep S H H1) (h : S p) : Keep S H (upd H1 p o) := fun a u e n => by rw [upd_ne (fun z => n (by rw [z]; exact h))]; exact k a u e n
theorem Keep.free (k : Keep S H H1) (h : H1 p = none) (n : ¬ S p) : H p = none := by
  cases e : H p with
  | none => rfl
  | some o => have z := k p o e n; rw [h] at z; cases z
theorem Keep.sq {K : PySem.W.Frag} {xs : List V} (k : Keep S H H1) (h : SqL K H p xs) (n : ¬ S p) : SqL K H1 p xs := by
  rcases h with (h | ⟨o, h⟩) | h
  · exact .inl (.inl (k _ _ h n))
  · exact .inl (.inr ⟨o, k _ _ h n⟩)
  · exact .inr h
theorem Keep.st {K : PySem.W.Frag} {xs : List V} (k : Keep S H H1) (h : SqT K H p xs) (n : ¬ S p) : SqT K H1 p xs := by
  rcases h with (h | ⟨o, h⟩) | h
  · exact .inl (.inl (k _ _ h n))
  · exact .inl (.inr ⟨o, k _ _ h n⟩)
  · exact .inr h
theorem sq {K : PySem.W.Frag} {xs : List V} (h : H p = some (.lst xs)) : SqL K H p xs := .inl (.inl h)
theorem st {K : PySem.W.Frag} {xs : List V} (h : H p = some (.tup xs)) : SqT K H p xs := .inl (.inl h)
end
end HS
theorem hu64 {A : PySem.Around} {k : Nat} (hr : L2.Room k A) : A.units + 64 < PySem.cLine := hr.units
namespace HS
open PySem PySem.Spec PyProof.Rows L2
section
variable {σ : L2.St} {H : Hp} {Q : VK} {te ta tb tx : TE} {K : PySem.W.Frag} {X : Cx}
theorem sz {n : Nat} (h : n ≤ 100000) : n < sizeLine := Nat.lt_of_le_of_lt h (by decide)
theorem szl {n : Nat} (h : n ≤ 100000) : n ≤ sizeLine := Nat.le_of_lt (sz h)
theorem pe_fold {e : Expr} {t : TE} (z : Int) (h : PE X e t) (k : ∀ (σ : L2.St) (H : Hp) (Q : VK), Q (.int z) H → t σ H Q) : PE X e (tC (.int z)) :=
  ⟨fun pins s σ H Q I q => h.run pins s σ H Q I (k σ H Q q)⟩
theorem ii {a b : Int} {q : Int → Int → Prop} (h : q a b) : ∃ i j, [V.int a, V.int b] = [V.int i, V.int j] ∧ q i j := ⟨a, b, rfl, h⟩
theorem bmL {r : V → List V → Hp → VK → Prop} {tl : TA} (h : ta σ H fun x H1 => tyV K "list" x H1 ∧ tl σ H1 fun xs H2 => r x xs H2 Q) : tBM K "list" r ta tl σ H Q := h
theorem bmL0 {r : V → List V → Hp → VK → Prop} (h : ta σ H fun x H1 => tyV K "list" x H1 ∧ r x [] H1 Q) : tBM0 K "list" r ta σ H Q := h
theorem tyL {p : Addr} {xs : List V} {A : Prop} (h : H p = some (.lst xs)) (q : A) : tyV K "list" (.ref p) H ∧ A := ⟨.inl ⟨rfl, _, .inl (.inl h)⟩, q⟩
theorem app {l : Addr} {xs : List V} {y : V} (h : H l = some (.lst xs)) (q : xs.length < sizeLine ∧ Q .non (upd H l (.lst (xs ++ [y])))) : rAppend (.ref l) [y] H Q := ⟨l, xs, y, rfl, rfl, h, q⟩
theorem pop0 {l : Addr} {y : V} {ys : List V} (h : H l = some (.lst (y :: ys))) (q : Q y (upd H l (.lst ys))) : rPopAt (.ref l) [.int 0] H Q := ⟨l, y :: ys, 0, 0, y, rfl, rfl, h, by decide, by decide, by simp [seqIndex?], rfl, q⟩
theorem setL {p : Addr} {xs : List V} {k : Int} {j : Nat} {v : V} {q : Hp → Prop} (h : H p = some (.lst xs)) (e : ixN xs.length k = some j) (g : q (upd H p (.lst (xs.set j v)))) : rSetL (.ref p) (.int k) v H q := ⟨p, xs, _, j, rfl, rfl, h, e, g⟩
theorem mulW {i j : Int} (a b : Nat) (h0 : 0 ≤ i) (h1 : i < 2 ^ a) (g0 : 0 ≤ j) (g1 : j < 2 ^ b) (ha : 0 < a) (hb : 0 < b) (h : a + b ≤ 1000000) : CMulW i j := by
  refine wide_mul (a := a) (b := b) ?_ ?_ ha hb h
  · have : ((i.natAbs : Nat) : Int) < ((2 ^ a : Nat) : Int) := by rw [Int.natAbs_of_nonneg h0]; simpa using h1
    exact Int.ofNat_lt.mp this
  · have : ((j.natAbs : Nat) : Int) < ((2 ^ b : Nat) : Int) := by rw [Int.natAbs_of_nonneg g0]; simpa using g1
    exact Int.ofNat_lt.mp this
theorem divW {i j : Int} (b : Nat) (h : 0 < j) (h1 : j < 2 ^ b) (hb : 0 < b) (h9 : b ≤ 9000) : CDivW i j := by
  refine wide_div (b := b) h ?_ hb h9
  have : ((j.natAbs : Nat) : Int) < ((2 ^ b : Nat) : Int) := by rw [Int.natAbs_of_nonneg (by omega)]; simpa using h1
  exact Int.ofNat_lt.mp this
theorem get_int {ns : List Int} {i : Nat} {x : V} (hi : (ns.map V.int)[i]? = some x) : ∃ z, x = .int z ∧ ns[i]? = some z ∧ i < ns.length := by
  rw [List.getElem?_map] at hi
  cases e : ns[i]? with
  | none => rw [e] at hi; cases hi
  | some z => rw [e] at hi; exact ⟨z, (Option.some.inj hi).symm, rfl, (List.getElem?_eq_some_iff.mp e).1⟩
end
end HS
namespace HS
open PySem PySem.Spec PyProof.Rows L2
theorem Keep.new' {S : Addr → Prop} {H H0 H1 : Hp} {p : Addr} {o : HO} (h : H0 p = none) (k0 : Keep S H H0) (n : ¬ S p) (k : Keep S H H1) : Keep S H (upd H1 p o) := k.put (k0.free h n)
theorem nS2 {p a b : Addr} (h1 : p ≠ a) (h2 : p ≠ b) : ¬ (p = a ∨ p = b) := fun z => z.elim h1 h2
theorem nS3 {p a b c : Addr} (h1 : p ≠ a) (h2 : p ≠ b) (h3 : p ≠ c) : ¬ (p = a ∨ p = b ∨ p = c) := fun z => z.elim h1 fun z => z.elim h2 h3
end HS
namespace HS
open PySem PySem.Spec PyProof.Rows L2
section
variable {σ : L2.St} {H : Hp} {t u : TS} {n bk ct : L2.St → Hp → Prop} {rt : VK}
theorem pnx (h : n σ H) : Ends.nx ⟨n, rt, bk, ct⟩ σ H := h
theorem pbk (h : bk σ H) : Ends.bk ⟨n, rt, bk, ct⟩ σ H := h
theorem pct (h : ct σ H) : Ends.ct ⟨n, rt, bk, ct⟩ σ H := h
theorem prt {v : V} (h : rt v H) : Ends.rt ⟨n, rt, bk, ct⟩ v H := h
theorem cut (M : L2.St → Hp → Prop) (h : t ⟨M, rt, bk, ct⟩ σ H) (k : ∀ σ' H', M σ' H' → u ⟨n, rt, bk, ct⟩ σ' H') : Evl.tCut t u ⟨n, rt, bk, ct⟩ σ H := ⟨M, h, k⟩
theorem pow_lt {i : Int} {a : Nat} (k : Nat) (h0 : 0 ≤ i) (h : i < 2 ^ a) : 0 ≤ i ^ k ∧ (i ^ k < 2 ^ (a * k) ∨ k = 0) := by
  refine ⟨Int.pow_nonneg h0, ?_⟩
  cases k with
  | zero => exact .inr rfl
  | succ k =>
    refine .inl ?_
    obtain ⟨m, rfl⟩ := Int.eq_ofNat_of_zero_le h0
    have h' : m < 2 ^ a := by have : ((m : Nat) : Int) < ((2 ^ a : Nat) : Int) := by simpa using h
                              exact Int.ofNat_lt.mp this
    have := Nat.pow_lt_pow_left h' (Nat.succ_ne_zero k)
    rw [← Nat.pow_mul] at this
    have z : ((m ^ (k + 1) : Nat) : Int) < ((2 ^ (a * (k + 1)) : Nat) : Int) := Int.ofNat_lt.mpr this
    simpa using z
end
end HS
namespace HS
open PySem PySem.Spec PyProof.Rows L2
section
variable {σ : L2.St} {H : Hp} {Q : VK} {ta tb te : TE} {K : PySem.W.Frag}
theorem szc {n : Nat} {A : Prop} (h : n ≤ 100000) (q : A) : n ≤ sizeLine ∧ A := ⟨szl h, q⟩
theorem szd {n : Nat} {A : Prop} (h : n ≤ 100000) (q : A) : n < sizeLine ∧ A := ⟨sz h, q⟩
theorem wp {σ1 σ2 : L2.St} {vs : List Nat} {A : Prop} (e : wipe σ2 vs = wipe σ1 vs) (q : A) : wipe σ2 vs = wipe σ1 vs ∧ A := ⟨e, q⟩
theorem yes {q : Bool → Hp → Prop} (h : q true H) : tYes σ H q := h
theorem ixI {p : Addr} {i : Int} (ns : List Int) (h : SqL K H p (ns.map V.int)) (h0 : 0 ≤ i) (h1 : i < ns.length) (q : ∀ z, ns[i.toNat]? = some z → z ∈ ns → Q (.int z) H) : rIxL K (.ref p) (.int i) H Q := by
  have hi : i.toNat < ns.length := by omega
  have e : ns[i.toNat]? = some ns[i.toNat] := List.getElem?_eq_getElem hi
  refine ⟨p, ns.map V.int, i, .int ns[i.toNat], rfl, rfl, h, ?_, q _ e (List.getElem_mem hi)⟩
  exact at_of (j := i.toNat) (by omega) (by rw [List.getElem?_map, e]; rfl)
theorem ixV {p : Addr} {i : Int} {xs : List V} (h : SqL K H p xs) (h0 : 0 ≤ i) (h1 : i < xs.length) (q : ∀ v, xs[i.toNat]? = some v → v ∈ xs → Q v H) : rIxL K (.ref p) (.int i) H Q := by
  have hi : i.toNat < xs.length := by omega
  have e : xs[i.toNat]? = some xs[i.toNat] := List.getElem?_eq_getElem hi
  refine ⟨p, xs, i, xs[i.toNat], rfl, rfl, h, ?_, q _ e (List.getElem_mem hi)⟩
  exact at_of (j := i.toNat) (by omega) e
theorem ixVT {p : Addr} {i : Int} {xs : List V} (h : SqT K H p xs) (h0 : 0 ≤ i) (h1 : i < xs.length) (q : ∀ v, xs[i.toNat]? = some v → v ∈ xs → Q v H) : rIxT K (.ref p) (.int i) H Q := by
  have hi : i.toNat < xs.length := by omega
  have e : xs[i.toNat]? = some xs[i.toNat] := List.getElem?_eq_getElem hi
  refine ⟨p, xs, i, xs[i.toNat], rfl, rfl, h, ?_, q _ e (List.getElem_mem hi)⟩
  exact at_of (j := i.toNat) (by omega) e
theorem lc {wi : TI} {g : TG} {tt : TT} {vs : List Nat} (h : wi σ H fun J H1 => ∀ D, H1 D = none → ∃ W : Nat → Nat → Hp → Prop, (∃ m, W 0 m (upd H1 D (.lst []))) ∧ ∀ i m H, W i m H → (J.stop i H ∧ Q (.ref D) H) ∨ (J.go i H ∧ ∃ Nx : Hp → Prop, (∀ H', Nx H' → ∃ m', m' < m ∧ W (i + 1) m' H') ∧ ∀ x H', J.yld i H x H' → g x (wipe σ vs) H' fun σ2 H2 => wipe σ2 vs = wipe σ vs ∧ tt σ2 H2 fun b H3 => if b = true then te σ2 H3 fun y H4 => ∃ acc, H4 D = some (.lst acc) ∧ acc.length < sizeLine ∧ Nx (upd H4 D (.lst (acc ++ [y]))) else Nx H3)) : tLc wi g tt te vs σ H Q := h
theorem rng1 {tl : TA} {R : It → Hp → Prop} (h : tl σ H fun vs H1 => ∃ j : Int, vs = [.int j] ∧ -(2 ^ 62) ≤ j ∧ j < 2 ^ 62 ∧ R (Itr 0 j.toNat) H1) : iRng1 tl σ H R := h
theorem rng2 {tl : TA} {R : It → Hp → Prop} (h : tl σ H fun vs H1 => ∃ i j : Int, vs = [.int i, .int j] ∧ (-(2 ^ 62) ≤ i ∧ i < 2 ^ 62 ∧ -(2 ^ 62) ≤ j ∧ j < 2 ^ 62) ∧ R (Itr i (j - i).toNat) H1) : iRng2 tl σ H R := h
theorem lis {tl : TE} {R : It → Hp → Prop} (h : tl σ H fun x H1 => ∃ a, x = .ref a ∧ (∃ xs, SqL K H1 a xs) ∧ R (Itl K a) H1) : iList K tl σ H R := h
theorem ra {a : Addr} {q : Addr → Prop} (h : q a) : ∃ b, V.ref a = V.ref b ∧ q b := ⟨a, rfl, h⟩
theorem i1e {a : Int} {q : Int → Prop} (h : q a) : ∃ i, [V.int a] = [V.int i] ∧ q i := ⟨a, rfl, h⟩
theorem fr {wi : TI} {g : TG} {tb : TS} {D : Ends} (h : wi σ H fun J H1 => ∃ W : Nat → Nat → L2.St → Hp → Prop, (∃ m, W 0 m σ H1) ∧ ∀ i m σ H, W i m σ H →
    (J.stop i H ∧ D.nx σ H) ∨ (J.go i H ∧ ∃ N : L2.St → Hp → Prop, (∀ σ' H', N σ' H' → ∃ m', m' < m ∧ W (i + 1) m' σ' H') ∧ ∀ x H', J.yld i H x H' → g x σ H' fun σ2 H2 => tb { D with nx := N, ct := N, bk := D.nx } σ2 H2)) : tFor wi g tb D σ H := h
end
end HS
namespace HS
open PySem PySem.Spec PyProof.Rows L2
theorem iteM {c : Bool} {ta tb : TE} {σ : L2.St} {H1 : Hp} {Q : VK} (M : VK) (h : c = true → ∀ Q' : VK, (∀ v H', M v H' → Q' v H') → ta σ H1 Q') (g : c = false → ∀ Q' : VK, (∀ v H', M v H' → Q' v H') → tb σ H1 Q') (k : ∀ v H', M v H' → Q v H') :
    if c = true then ta σ H1 Q else tb σ H1 Q := by
  cases c with
  | true => rw [if_pos rfl]; exact h rfl Q k
  | false => rw [if_neg Bool.false_ne_true]; exact g rfl Q k
/-- ceilings -/
theorem ceil_eq {i j : Int} (hj : 1 ≤ j) : (i + j - 1) / j = i / j + (if 0 < i % j then 1 else 0) := by
  have h0 := Int.emod_nonneg i (by omega : j ≠ 0)
  have h1 := Int.emod_lt_of_pos i (by omega : 0 < j)
  have e := Int.mul_ediv_add_emod i j
  generalize i / j = q at e ⊢
  generalize i % j = r at e h0 h1 ⊢
  subst e
  split
  · rename_i h
    rw [show j * q + r + j - 1 = (r - 1) + j * (q + 1) by rw [Int.mul_add]; omega, Int.add_mul_ediv_left _ _ (by omega), Int.ediv_eq_zero_of_lt (by omega) (by omega)]
    omega
  · rename_i h
    rw [show j * q + r + j - 1 = (j - 1) + j * q by omega, Int.add_mul_ediv_left _ _ (by omega), Int.ediv_eq_zero_of_lt (by omega) (by omega)]
    omega
end HS
namespace HS
open PySem PySem.Spec PyProof.Rows L2
section
variable {σ : L2.St} {H : Hp} {te : TE} {t : TS} {tg ug : TGn} {n bk ct : List V → L2.St → Hp → Prop} {rt : List V → VK} {ys : List V} {Q : VK}
theorem gthen (h : tg ⟨fun ys' σ' H' => ug ⟨n, rt, bk, ct⟩ ys' σ' H', rt, bk, ct⟩ ys σ H) : tGThen tg ug ⟨n, rt, bk, ct⟩ ys σ H := h
theorem g0 (h : n ys σ H) : tG0 ⟨n, rt, bk, ct⟩ ys σ H := h
theorem gpl (h : t ⟨n ys, rt ys, bk ys, ct ys⟩ σ H) : tPlain t ⟨n, rt, bk, ct⟩ ys σ H := h
theorem gyl (h : ys.length < sizeLine ∧ te σ H fun x H1 => n (ys ++ [x]) σ H1) : tGYield te ⟨n, rt, bk, ct⟩ ys σ H := h
theorem lgn {tg : TGen} (h : tg σ H fun out H2 => ∀ p, H2 p = none → Q (.ref p) (upd H2 p (.lst out))) : tListG tg σ H Q := h
theorem calg {sp : SpG} {E : XK} {tl : TA} {q : List V → Hp → Prop} (h : tl σ H fun vs H1 => sp vs H1 q E) : tCallG sp [] E tl σ H q := by
  show tl σ H fun vs H1 => sp (vs ++ []) H1 q E
  simp only [List.append_nil]; exact h
end
end HS
namespace HS
open PySem PySem.Spec PyProof.Rows L2
section
variable {H : Hp} {Q : VK} {K : PySem.W.Frag}
theorem ixZ {p : Addr} {i z : Int} {ns : List Int} (h : SqL K H p (ns.map V.int)) (h0 : 0 ≤ i) (e : ns[i.toNat]? = some z) (q : Q (.int z) H) : rIxL K (.ref p) (.int i) H Q :=
  ⟨p, ns.map V.int, i, .int z, rfl, rfl, h, at_of (j := i.toNat) (by omega) (by rw [List.getElem?_map, e]; rfl), q⟩
theorem cut_to (xs : List V) (n : Nat) : cutV xs none (some (n : Int)) = xs.take n := by
  unfold cutV
  rw [HT.sIx_none, HT.sIx_nat, List.drop_zero, Nat.sub_zero]
  rw [List.take_eq_take_iff]
  omega
theorem cut_from (xs : List V) (n : Nat) : cutV xs (some (n : Int)) none = xs.drop n := by
  unfold cutV
  rw [HT.sIx_none, HT.sIx_nat]
  rw [List.take_of_length_le (by rw [List.length_drop]; omega)]
  by_cases h : n ≤ xs.length
  · rw [Nat.min_eq_left h]
  · rw [Nat.min_eq_right (by omega), List.drop_eq_nil_of_le (Nat.le_refl _), List.drop_eq_nil_of_le (by omega)]
end
end HS
namespace HS
open PySem PySem.Spec PyProof.Rows L2
theorem Keep.any {S : Addr → Prop} {H H1 : Hp} (k : Keep (fun _ => False) H H1) : Keep S H H1 := fun a o e _ => k a o e id
theorem Keep.mono {S T : Addr → Prop} {H H1 : Hp} (k : Keep S H H1) (h : ∀ a, S a → T a) : Keep T H H1 := fun a o e n => k a o e fun z => n (h a z)
end HS
namespace HS
open PySem PySem.Spec PyProof.Rows L2
theorem cut_toI {i : Int} (ls : List Int) (h : 0 ≤ i) : cutV (ls.map V.int) none (some i) = (ls.take i.toNat).map V.int := by
  obtain ⟨n, rfl⟩ := Int.eq_ofNat_of_zero_le h
  rw [cut_to, List.map_take]; simp
theorem cut_fromI {i : Int} (ls : List Int) (h : 0 ≤ i) : cutV (ls.map V.int) (some i) none = (ls.drop i.toNat).map V.int := by
  obtain ⟨n, rfl⟩ := Int.eq_ofNat_of_zero_le h
  rw [cut_from, List.map_drop]; simp
end HS
namespace HS
theorem ifT {c : Bool} {A B : Prop} (e : c = true) (h : A) : if c = true then A else B := by rw [if_pos e]; exact h
theorem ifF {c : Bool} {A B : Prop} (e : c = false) (h : B) : if c = true then A else B := by rw [if_neg (by rw [e]; exact Bool.false_ne_true)]; exact h
end HS
namespace HS
open PySem PySem.Spec PyProof.Rows L2
/-- a new object behind what stands -/
theorem Keep.nw {H H1 : Hp} {p : Addr} {o : HO} (k : Keep (fun _ => False) H H1) (h : H1 p = none) : Keep (fun _ => False) H (upd H1 p o) := k.put (k.free h id)
theorem Keep.nwS {S : Addr → Prop} {H H1 : Hp} {p : Addr} {o : HO} (k : Keep S H H1) (h : H1 p = none) (n : ¬ S p) : Keep S H (upd H1 p o) := k.put (k.free h n)
end HS
namespace HS
theorem nt {A B : Prop} (h : B) : if (!true) = true then A else B := by rw [if_neg (show ¬ ((!true) = true) from Bool.false_ne_true)]; exact h
theorem nf {A B : Prop} (h : A) : if (!false) = true then A else B := by rw [if_pos (show (!false) = true from rfl)]; exact h
end HS
namespace HS
open PySem PySem.Spec PyProof.Rows L2
section
variable {H H' : Hp} {p x : Addr} {o u : HO}
theorem upgs (e : upd H p o = H') : H' p = some o := by rw [← e]; exact upd_same
theorem upgK (e : upd H p o = H') (h : H p = none) : Keep (fun _ => False) H H' := by rw [← e]; exact Keep.new h
end
end HS
/-! Data of ints, lists and tuples, and == of such. -/
namespace HS
open PySem PySem.Spec PyProof.Rows L2
def dInts (ns : List Int) : PyData := .list (ns.map .int)
section
variable {K : PySem.W.Frag} {H : Hp}
theorem dpAll_ints : ∀ ns : List Int, DpAll K H (ns.map V.int) (ns.map .int)
  | [] => .nil
  | n :: r => .cons (.int n) (dpAll_ints r)
theorem dp_ints {a : Addr} {ns : List Int} (h : SqL K H a (ns.map V.int)) : Dp K H (.ref a) (dInts ns) := .lst h (dpAll_ints ns)
theorem lay_ints : ∀ ns : List Int, PyData.canLayAll0 (ns.map .int) = true
  | [] => rfl
  | n :: r => by rw [List.map_cons, PyData.canLayAll0, lay_ints r]; rfl
theorem dep_ints : ∀ ns : List Int, PyData.depthAll (ns.map .int) = 0
  | [] => rfl
  | n :: r => by rw [List.map_cons, PyData.depthAll, dep_ints r]; rfl
theorem sh_ints (ns : List Int) : SeqAt.shaped (dInts ns) = true := by
  unfold SeqAt.shaped dInts
  rw [PyData.canLay0, PyData.depth, lay_ints, dep_ints]; rfl
theorem eqv_int (i j : Int) : PyData.eqv (.int i) (.int j) = decide (i = j) := by
  rw [PyData.eqv]; exact Bool.beq_eq_decide_eq i j
theorem eqvAll_ints : ∀ xs ys : List Int, PyData.eqvAll (xs.map .int) (ys.map .int) = decide (xs = ys)
  | [], [] => rfl
  | [], y :: ys => rfl
  | x :: xs, [] => rfl
  | x :: xs, y :: ys => by
    rw [List.map_cons, List.map_cons, PyData.eqvAll, eqv_int, eqvAll_ints xs ys]
    by_cases h : x = y <;> by_cases g : xs = ys <;> simp [h, g]
theorem eqv_ints (xs ys : List Int) : PyData.eqv (dInts xs) (dInts ys) = decide (xs = ys) := by
  unfold dInts; rw [PyData.eqv]; exact eqvAll_ints xs ys
/-- == and != of two lists of ints -/
theorem eqL {a b : Addr} {xs ys : List Int} {Q : VK} (h1 : SqL K H a (xs.map V.int)) (h2 : SqL K H b (ys.map V.int)) (q : Q (.bl (decide (xs = ys))) H) : rEqD K (.ref a) (.ref b) H Q :=
  ⟨_, _, dp_ints h1, dp_ints h2, sh_ints _, sh_ints _, by rw [eqv_ints]; exact q⟩
theorem neL {a b : Addr} {xs ys : List Int} {Q : VK} (h1 : SqL K H a (xs.map V.int)) (h2 : SqL K H b (ys.map V.int)) (q : Q (.bl (!decide (xs = ys))) H) : rNeD K (.ref a) (.ref b) H Q :=
  ⟨_, _, dp_ints h1, dp_ints h2, sh_ints _, sh_ints _, by rw [eqv_ints]; exact q⟩
end
end HS
/-! Rules told with the written part K by its own letter. -/
namespace HS
open PySem PySem.Spec PyProof.Rows L2
section
variable {X : Cx} (K : PySem.W.Frag)
theorem ixl (h : X.K = K := by rfl) : IxR X (rIxL K) := h ▸ ix_list
theorem ixt (h : X.K = K := by rfl) : IxR X (rIxT K) := h ▸ ix_tup
theorem sll (h : X.K = K := by rfl) : SlR X (rSlL K) := h ▸ sl_list
theorem slt (h : X.K = K := by rfl) : SlR X (rSlT K) := h ▸ sl_tup
theorem kbm {E : Expr} {T : String} {r : V → List V → Hp → VK → Prop} {to : TE} {t : TA} (p : PE X E (tBM X.K T r to t)) (h : X.K = K := by rfl) : PE X E (tBM K T r to t) := h ▸ p
theorem kbm0 {E : Expr} {T : String} {r : V → List V → Hp → VK → Prop} {to : TE} (p : PE X E (tBM0 X.K T r to)) (h : X.K = K := by rfl) : PE X E (tBM0 K T r to) := h ▸ p
theorem kil {tg l : Expr} {tl : TE} (p : PI X tg l (iList X.K tl)) (h : X.K = K := by rfl) : PI X tg l (iList K tl) := h ▸ p
theorem kit {tg l : Expr} {tl : TE} (p : PI X tg l (iTup X.K tl)) (h : X.K = K := by rfl) : PI X tg l (iTup K tl) := h ▸ p
theorem kien {tg l : Expr} {tl : TA} (p : PI X tg l (iEnum X.K tl)) (h : X.K = K := by rfl) : PI X tg l (iEnum K tl) := h ▸ p
theorem kgt {tg : Expr} {n : Nat} {t : TGs} (p : PG X tg (gTup X.K n t)) (h : X.K = K := by rfl) : PG X tg (gTup K n t) := h ▸ p
theorem keq (hu : X.A.units + 64 < cLine) (h : X.K = K := by rfl) : OpR X (compareOp .Eq) (rEqD K) := h ▸ op_eqD hu
theorem kne (hu : X.A.units + 64 < cLine) (h : X.K = K := by rfl) : OpR X (compareOp .NotEq) (rNeD K) := h ▸ op_neD hu
theorem kin (h : X.K = K := by rfl) : OpR X (compareOp .In) (rIn K false) := h ▸ op_in_seq
theorem knin (h : X.K = K := by rfl) : OpR X (compareOp .NotIn) (rIn K true) := h ▸ op_notIn_seq
theorem kcatT (h : X.K = K := by rfl) : OpR X (binaryOp .Add) (rCatT K) := h ▸ op_catT
def rLen : List V → Hp → VK → Prop := fun xs H Q => ∃ p ys, xs = [.ref p] ∧ (SqL K H p ys ∨ SqT K H p ys) ∧ Q (.int ys.length) H
def rLst : List V → Hp → VK → Prop := fun xs H Q => ∃ p ys, xs = [.ref p] ∧ (SqL K H p ys ∨ SqT K H p ys) ∧ ∀ l, H l = none → Q (.ref l) (upd H l (.lst ys))
theorem klen (h : X.K = K := by rfl) : CallR X (.builtin "len") (rLen K) := h ▸ call_len_seq
theorem klst (h : X.K = K := by rfl) : CallR X (.type "list") (rLst K) := h ▸ call_list_of
theorem ksum (hc : X.calm = true) (h : X.K = K := by rfl) : CallR X (.builtin "sum") (rSum K) := h ▸ cr_sum hc
theorem kmax (hc : X.calm = true) (h : X.K = K := by rfl) : CallR X (.builtin "max") (rMax K) := h ▸ cr_max hc
theorem kmin (hc : X.calm = true) (h : X.K = K := by rfl) : CallR X (.builtin "min") (rMin K) := h ▸ cr_min hc
theorem krev {E : Expr} {te : TE} (p : PE X E (tRevL X.K te)) (h : X.K = K := by rfl) : PE X E (tRevL K te) := h ▸ p
/-- the names of a block within a block -/
def relab (scO sc : Scope) : Scope := { scO with names := scO.names.map fun (n, k) => if (k == .free && sc.kind == .function && sc.names.lookup n == some .cell) then (n, .cell) else (n, k) }
/-- a list comprehension within a comprehension's block -/
theorem pe_lcIn {X : Cx} {s0 : Shared} {H0 : Hp} {C0 : Addr} {cl0 : List (Str × Addr)} {fp0 : List Addr} {scO : Scope} {elt tg iter : Expr} {ifs : List Expr} {scope : Scope} {own : List (Str × Nat)} {pos : Pos} {wi : TI} {g : TG} {tt : TT} {te : TE} (hc : X.calm = true) (hN : X.N.Nodup) (hi : PI (X.blk s0 H0 scO (compEnvC scO cl0 C0 X.env) fp0) tg iter wi) (sc : Scope) (hsc : X.env.scope = sc) (ok : BlkOk X.N (relab scO sc) scope own)
    (hg : ∀ (s : Shared) (H : Hp) (C : Addr) (cl : List (Str × Addr)) (fp : List Addr), PG ((X.blk s0 H0 scO (compEnvC scO cl0 C0 X.env) fp0).blk s H scope (compEnvC scope cl C (compEnvC scO cl0 C0 X.env)) fp) tg g) (ht : ∀ (s : Shared) (H : Hp) (C : Addr) (cl : List (Str × Addr)) (fp : List Addr), PTs ((X.blk s0 H0 scO (compEnvC scO cl0 C0 X.env) fp0).blk s H scope (compEnvC scope cl C (compEnvC scO cl0 C0 X.env)) fp) ifs tt)
    (he : ∀ (s : Shared) (H : Hp) (C : Addr) (cl : List (Str × Addr)) (fp : List Addr), PE ((X.blk s0 H0 scO (compEnvC scO cl0 C0 X.env) fp0).blk s H scope (compEnvC scope cl C (compEnvC scO cl0 C0 X.env)) fp) elt te) (hs : ∀ x, foldedSetIterable iter (compEnvC scO cl0 C0 X.env) x = pure x := by intro _; rfl) :
    PE (X.blk s0 H0 scO (compEnvC scO cl0 C0 X.env) fp0) (.ListComp elt [⟨tg, iter, ifs, 0⟩] scope pos) (tLc wi g tt te (own.map (·.2))) :=
  by subst hsc; exact pe_lc (X := X.blk s0 H0 scO (compEnvC scO cl0 C0 X.env) fp0) hc hN hi ok hg ht he hs
end
section
variable {σ : L2.St} {H : Hp} {Q : VK} {te : TE} {K : PySem.W.Frag}
theorem lenL {p : Addr} {ys : List V} (h : SqL K H p ys) (q : Q (.int ys.length) H) : rLen K [.ref p] H Q := ⟨p, ys, rfl, .inl h, q⟩
theorem lenT {p : Addr} {ys : List V} (h : SqT K H p ys) (q : Q (.int ys.length) H) : rLen K [.ref p] H Q := ⟨p, ys, rfl, .inr h, q⟩
theorem sumL {p : Addr} {ns : List Int} (h : SqL K H p (ns.map V.int)) (q : Q (.int ns.sum) H) : rSum K [.ref p] H Q := ⟨p, ns, rfl, h, q⟩
theorem revL (h : te σ H fun x H1 => ∃ a xs, x = .ref a ∧ SqL K H1 a xs ∧ ∀ p, H1 p = none → Q (.ref p) (upd H1 p (.lst xs.reverse))) : tRevL K te σ H Q := h
theorem sl {r : V → Option Int → Option Int → Hp → VK → Prop} {tl th : TO} (h : te σ H fun x H1 => tl σ H1 fun l H2 => th σ H2 fun u H3 => r x l u H3 Q) : tSl r te tl th σ H Q := h
theorem noP {q : Option Int → Hp → Prop} (h : q none H) : tNoPart σ H q := h
theorem part {q : Option Int → Hp → Prop} (h : te σ H fun x H1 => ∃ i, x = .int i ∧ q (some i) H1) : tPart te σ H q := h
theorem ie {a : Int} {q : Int → Prop} (h : q a) : ∃ i, V.int a = V.int i ∧ q i := ⟨a, rfl, h⟩
theorem slLs {p : Addr} {xs : List V} {lo hi : Option Int} (h : SqL K H p xs) (q : ∀ p, H p = none → Q (.ref p) (upd H p (.lst (cutV xs lo hi)))) : rSlL K (.ref p) lo hi H Q := ⟨p, xs, rfl, h, q⟩
theorem gtup {n : Nat} {t : TGs} {a : Addr} {xs : List V} {q : L2.St → Hp → Prop} (h : SqT K H a xs) (e : xs.length = n) (k : t xs σ H q) : gTup K n t (.ref a) σ H q := ⟨a, xs, rfl, h, e, k⟩
theorem gcons {t : TG} {u : TGs} {v : V} {r : List V} {q : L2.St → Hp → Prop} (h : t v σ H fun σ' H' => u r σ' H' q) : gCons t u (v :: r) σ H q := ⟨v, r, rfl, h⟩
theorem gnil {q : L2.St → Hp → Prop} (h : q σ H) : gNil [] σ H q := ⟨rfl, h⟩
theorem itup {R : It → Hp → Prop} (h : te σ H fun x H1 => ∃ a, x = .ref a ∧ (∃ xs, SqT K H1 a xs) ∧ R (Itt K a) H1) : iTup K te σ H R := h
theorem ienu {tl : TA} {R : It → Hp → Prop} (h : tl σ H fun vs H1 => ∃ a xs, vs = [.ref a] ∧ SqL K H1 a xs ∧ R (Ite K a) H1) : iEnum K tl σ H R := h
theorem cat {l b : Addr} {xs zs : List V} (h1 : H l = some (.lst xs)) (h2 : H b = some (.lst zs)) (q : xs.length + zs.length ≤ sizeLine ∧ ∀ p, H p = none → Q (.ref p) (upd H p (.lst (xs ++ zs)))) : rCat (.ref l) (.ref b) H Q := ⟨l, b, xs, zs, rfl, rfl, h1, h2, q⟩
theorem ext {l b : Addr} {xs zs : List V} (h1 : H l = some (.lst xs)) (h2 : H b = some (.lst zs)) (q : xs.length + zs.length ≤ sizeLine ∧ Q .non (upd H l (.lst (xs ++ zs)))) : rExtend (.ref l) [.ref b] H Q := ⟨l, b, xs, zs, rfl, rfl, h1, h2, q⟩
end
end HS
/-! Lists of new pairs of ints, and == of such; ranges by steps. -/
namespace HS
open PySem PySem.Spec PyProof.Rows L2
/-- the refs of vs are tuples of these pairs -/
def Prs (H : Hp) : List V → List (Int × Int) → Prop
  | [], [] => True
  | v :: vs, p :: ps => (∃ t, v = .ref t ∧ H t = some (.tup [.int p.1, .int p.2])) ∧ Prs H vs ps
  | _, _ => False
theorem Prs.keep {S : Addr → Prop} {H H' : Hp} (k : Keep S H H') : ∀ {vs : List V} {ps : List (Int × Int)}, Prs H vs ps → (∀ v ∈ vs, ∀ t, v = .ref t → ¬ S t) → Prs H' vs ps
  | [], [], h, _ => h
  | _ :: _, _ :: _, ⟨⟨t, e, o⟩, h⟩, n => ⟨⟨t, e, k t _ o (n _ List.mem_cons_self t e)⟩, h.keep k fun v hv => n v (List.mem_cons_of_mem _ hv)⟩
theorem Prs.app {H : Hp} : ∀ {vs ws : List V} {ps qs : List (Int × Int)}, Prs H vs ps → Prs H ws qs → Prs H (vs ++ ws) (ps ++ qs)
  | [], _, [], _, _, g => g
  | _ :: _, _, _ :: _, _, ⟨a, h⟩, g => ⟨a, h.app g⟩
theorem Prs.len {H : Hp} : ∀ {vs : List V} {ps : List (Int × Int)}, Prs H vs ps → vs.length = ps.length
  | [], [], _ => rfl
  | _ :: _, _ :: _, ⟨_, h⟩ => by rw [List.length_cons, List.length_cons, h.len]
def dPr (p : Int × Int) : PyData := .tuple [.int p.1, .int p.2]
def dPrs (ps : List (Int × Int)) : PyData := .list (ps.map dPr)
section
variable {K : PySem.W.Frag} {H : Hp}
theorem dpAll_prs : ∀ {vs : List V} {ps : List (Int × Int)}, Prs H vs ps → DpAll K H vs (ps.map dPr)
  | [], [], _ => .nil
  | _ :: _, p :: _, ⟨⟨t, e, o⟩, h⟩ => .cons (by rw [e]; exact .tup (st o) (.cons (.int p.1) (.cons (.int p.2) .nil))) (dpAll_prs h)
theorem lay_prs : ∀ ps : List (Int × Int), PyData.canLayAll0 (ps.map dPr) = true
  | [] => rfl
  | p :: r => by rw [List.map_cons, PyData.canLayAll0, lay_prs r]; rfl
theorem dep_prs : ∀ ps : List (Int × Int), PyData.depthAll (ps.map dPr) ≤ 2
  | [] => by simp [PyData.depthAll]
  | p :: r => by
    have h := dep_prs r
    have h2 : (dPr p).depth ≤ 2 := by simp [dPr, PyData.depth, PyData.depthAll]
    rw [List.map_cons, PyData.depthAll]; omega
theorem sh_prs (ps : List (Int × Int)) : SeqAt.shaped (dPrs ps) = true := by
  have h1 := dep_prs ps
  have h2 : PyData.depth (dPrs ps) ≤ 64 := by unfold dPrs; rw [PyData.depth]; omega
  show (PyData.canLay0 (dPrs ps) && decide (PyData.depth (dPrs ps) ≤ 64)) = true
  rw [Bool.and_eq_true]
  exact ⟨by unfold dPrs; rw [PyData.canLay0]; exact lay_prs ps, decide_eq_true h2⟩
theorem eqv_pr (p q : Int × Int) : PyData.eqv (dPr p) (dPr q) = decide (p = q) := by
  unfold dPr
  rw [PyData.eqv, PyData.eqvAll, PyData.eqvAll, PyData.eqvAll, eqv_int, eqv_int]
  obtain ⟨a, b⟩ := p
  obtain ⟨c, d⟩ := q
  by_cases h : a = c <;> by_cases g : b = d <;> simp [h, g]
theorem eqvAll_prs : ∀ xs ys : List (Int × Int), PyData.eqvAll (xs.map dPr) (ys.map dPr) = decide (xs = ys)
  | [], [] => rfl
  | [], y :: ys => rfl
  | x :: xs, [] => rfl
  | x :: xs, y :: ys => by
    rw [List.map_cons, List.map_cons, PyData.eqvAll, eqv_pr, eqvAll_prs xs ys]
    by_cases h : x = y <;> by_cases g : xs = ys <;> simp [h, g]
/-- == of two lists of pairs of ints -/
theorem eqP {a b : Addr} {vs ws : List V} {xs ys : List (Int × Int)} {Q : VK} (h1 : SqL K H a vs) (g1 : Prs H vs xs) (h2 : SqL K H b ws) (g2 : Prs H ws ys) (q : Q (.bl (decide (xs = ys))) H) : rEqD K (.ref a) (.ref b) H Q := by
  refine ⟨dPrs xs, dPrs ys, .lst h1 (dpAll_prs g1), .lst h2 (dpAll_prs g2), sh_prs _, sh_prs _, ?_⟩
  rw [show PyData.eqv (dPrs xs) (dPrs ys) = decide (xs = ys) by unfold dPrs; rw [PyData.eqv]; exact eqvAll_prs xs ys]
  exact q
end
theorem RgC.up {j c : Int} (hc : 1 ≤ c) (hc2 : c < 2 ^ 30) (h0 : 0 ≤ j) (h1 : j < 2 ^ 61) : RgC 0 j c ((j + c - 1) / c).toNat := by
  have hn : 0 ≤ (j + c - 1) / c := Int.ediv_nonneg (by omega) (by omega)
  have e : Builtin.Range.rangeSize 0 j c = (j + c - 1) / c := by
    unfold Builtin.Range.rangeSize
    rw [if_pos (by omega)]
    split
    · rw [show j + c - 1 = (j - 0 - 1) + c * 1 by omega, Int.add_mul_ediv_left _ _ (by omega)]
    · rw [show j = 0 by omega, Int.ediv_eq_zero_of_lt (by omega) (by omega)]
  have hl : (j + c - 1) / c ≤ j + c := Int.le_trans (Int.ediv_le_self _ (by omega)) (by omega)
  refine ⟨by omega, by omega, ?_, by rw [e]; omega⟩
  unfold Builtin.Range.small
  rw [e]
  simp only [Builtin.Range.rangeFitsLong, Bool.and_eq_true, Bool.or_eq_true, decide_eq_true_eq, beq_iff_eq]
  rw [if_pos (show c > 0 by omega)]
  simp only [Bool.and_eq_true, decide_eq_true_eq]
  omega
end HS
namespace HS
open PySem PySem.Spec PyProof.Rows L2
section
variable {σ : L2.St} {H : Hp}
theorem rng3 {tl : TA} {R : It → Hp → Prop} (h : tl σ H fun vs H1 => ∃ (i j c : Int) (n : Nat), vs = [.int i, .int j, .int c] ∧ RgC i j c n ∧ R (Itc i c n) H1) : iRng3 tl σ H R := h
end
end HS
namespace HS
open PySem PySem.Spec PyProof.Rows L2
theorem Prs.new {H : Hp} {p : Addr} {o : HO} (hp : H p = none) {vs : List V} {ps : List (Int × Int)} (h : Prs H vs ps) : Prs (upd H p o) vs ps :=
  h.keep (S := fun _ => False) (Keep.new hp) fun _ _ _ _ z => z
theorem Prs.same {H H' : Hp} {vs : List V} {ps : List (Int × Int)} (h : Prs H vs ps) (k : Keep (fun _ => False) H H') : Prs H' vs ps :=
  h.keep (S := fun _ => False) k fun _ _ _ _ z => z
theorem Prs.lst {H : Hp} {L : Addr} {ws : List V} (hL : H L = some (.lst ws)) : ∀ {vs : List V} {ps : List (Int × Int)}, Prs H vs ps → ∀ v ∈ vs, ∀ t, v = .ref t → t ≠ L
  | [], [], _, _, hv, _, _ => absurd hv List.not_mem_nil
  | _ :: _, _ :: _, ⟨⟨t', e', o'⟩, h⟩, v, hv, t, e => by
    rcases List.mem_cons.mp hv with hv | hv
    · subst hv
      rw [e'] at e
      have := V.ref.inj e
      subst this
      intro z
      rw [z, hL] at o'
      cases o'
    · exact h.lst hL v hv t e
theorem Prs.put {H : Hp} {L : Addr} {ws : List V} {o : HO} (hL : H L = some (.lst ws)) {vs : List V} {ps : List (Int × Int)} (h : Prs H vs ps) : Prs (upd H L o) vs ps :=
  h.keep (S := fun a => a = L) (Keep.at Keep.refl rfl) (h.lst hL)
theorem Prs.snoc {H : Hp} {vs : List V} {ps : List (Int × Int)} {t : Addr} {a b : Int} (h : Prs H vs ps) (e : H t = some (.tup [.int a, .int b])) : Prs H (vs ++ [.ref t]) (ps ++ [(a, b)]) :=
  h.app ⟨⟨t, rfl, e⟩, trivial⟩
end HS
/-! A for whose body hands out (own rule over HandS.GenBody). -/
namespace HS
open PySem PySem.Spec PyProof.Rows L2
def tGFor (wi : TI) (g : TG) (tb : TGn) : TGn := fun D ys σ H => wi σ H fun J H1 => ∃ W : Nat → Nat → List V → L2.St → Hp → Prop, (∃ m, W 0 m ys σ H1) ∧ ∀ i m ys σ H, W i m ys σ H →
  (J.stop i H ∧ D.nx ys σ H) ∨ (J.go i H ∧ ∃ N : List V → L2.St → Hp → Prop, (∀ ys' σ' H', N ys' σ' H' → ∃ m', m' < m ∧ W (i + 1) m' ys' σ' H') ∧ ∀ x H', J.yld i H x H' → g x σ H' fun σ2 H2 => tb { D with nx := N, ct := N, bk := D.nx } ys σ2 H2)
section
variable {X : Cx}
theorem gs_for {tg iter : Expr} {body : List Stmt} {wi : TI} {g : TG} {tb : TGn} {pos : Pos} (hp : PassesOwn (model X.prog X.w) X.A X.env X.xe) (hc : X.calm = true) (hi : PI X tg iter wi) (hg : PG X tg g) (hb : GSs X body tb)
    (hs : ∀ x, foldedSetIterable iter X.env x = pure x := by intro _; rfl) : GS X (.For tg iter body [] pos) (tGFor wi g tb) := by
  refine ⟨fun A S ip R n ys s₀ c fs K J gd lv s σ H D gc hn k hI ht => ?_⟩
  obtain ⟨acc0, cc0, r0, I0⟩ := hI
  rw [exec_For]
  show Seg _ _ _ _ _ _ _ (.at pos fun _ => (eval iter X.env >>= fun v => (foldedSetIterable iter X.env v >>= fun x => (standAt iter.pos >>= fun _ => (holding [x] (pyIter x) >>= fun itv => runOwn (.forLoop tg itv body [] X.env) X.env)))).wrap K J gd lv) _ _
  refine seg_at (seg_bind_wrap ?_)
  rw [gc.over]
  refine wpAny_mono (hi.run _ s σ H _ I0 ht) (fun v s1 h1 => ?_) fun x s' hx => k.exc n s₀ x s' hx
  rw [hs v]
  refine seg_bind_wrap (wpAny_pure ?_)
  refine seg_bind_wrap (wpAny_standAt ?_)
  refine seg_bind_wrap ?_
  rw [gc.over]
  refine wpAny_holding (wpAny_mono h1 (fun itv s2 h2 => ?_) fun x s' hx => k.exc n s₀ x s' hx)
  obtain ⟨it, fp, tn, Jt, H2, e, I2, T, st2, f2, W, ⟨m0, w0⟩, turn⟩ := h2
  subst e
  have stat : ∀ {H' : Hp} (acc : Array Value) (cc : Nat), (∀ b ∈ fp, H' b = none) → ∀ b ∈ fp, FpOk X ((S, lstObj acc cc) :: ip) H' b := fun {H'} acc cc hn b hb => by
    obtain ⟨_, q1, q2, q3, q4, q5⟩ := f2 b hb
    refine ⟨hn b hb, q1, q2, q3, q4, fun p hp => ?_⟩
    rcases List.mem_append.mp hp with z | z
    · exact q5 p (List.mem_append_left _ z)
    · rcases List.mem_cons.mp z with z | z
      · rw [z]; exact q5 (S, lstObj acc0 cc0) (List.mem_append_right _ List.mem_cons_self)
      · exact q5 p (List.mem_append_right _ (List.mem_cons_of_mem _ z))
  have neS : ∀ b ∈ fp, b ≠ S := fun b hb z => (f2 b hb).2.2.2.2.2 (S, lstObj acc0 cc0) (List.mem_append_right _ List.mem_cons_self) z.symm
  refine seg_call fun p => ?_
  have gl := fun (kk : Result → Sem PySem.Fin) => gc_loop (k := kk) (c' := .forLoop tg (.ref it) body [] X.env) (l := lv []) (kp := []) (p := p) gc rfl rfl
  have loop : ∀ (m i n : Nat) (ys : List V) (s₀ s : Shared) (σ : L2.St) (H : Hp), n + ys.length = sizeLine → W i m ys σ H → GI X S ip ys σ H s → tn i s.heap → (∀ b ∈ fp, H b = none) →
      Seg (model X.prog X.w) A R (GY X S) n s₀ (.forLoop tg (.ref it) body [] X.env) ((model X.prog X.w).den (.forLoop tg (.ref it) body [] X.env))
        (.ret (fun r => ((match r with | .ok f => (.pure f : Sem Flow) | .error e => .raise e).onRaise (cameBack X.env)).wrap K J gd lv) none (gd false) (lv []) c p [] :: fs) s := by
    intro m
    induction m using Nat.strongRecOn with
    | ind m ih =>
      intro i n ys s₀ s σ H hn w hI st fr
      have ee : ∀ (n : Nat) (s₀ : Shared) (x : Value) (s' : Shared), X.xe x s' → Seg (model X.prog X.w) A R (GY X S) n s₀ (.forLoop tg (.ref it) body [] X.env)
          ((do noteFrame x X.env; theTreesLotGoes x : Sem Unit).bind (fun _ => .raise x))
          (.ret (fun r => ((match r with | .ok f => (.pure f : Sem Flow) | .error e => .raise e).onRaise (cameBack X.env)).wrap K J gd lv) none (gd false) (lv []) c p [] :: fs) s' := fun n s₀ x s' hx => by
        rw [Sem.bind_eq_wrap]
        refine seg_wrap ?_
        rw [(gl _).over]
        refine wpAny_bind (wpAny_mono (hp x s' hx) (fun _ s'' hcb => wpAny_theTreesLotGoes ?_) fun y s'' hcb => ?_)
        · exact seg_leaf (.error x) (seg_cameBack gc k hcb)
        · exact seg_leaf (.error y) (seg_cameBack gc k hcb)
      show Seg _ A R (GY X S) n s₀ _ ((forTurn tg (.ref it) body [] X.env).onRaise (fun x => do noteFrame x X.env; theTreesLotGoes x)) _ s
      unfold forTurn
      rw [Sem.onRaise_eq_wrap]
      refine seg_bind_wrap (wpAny_standAt ?_)
      refine seg_bind_wrap ?_
      rw [(gl _).over]
      obtain ⟨acc, cc, r, I⟩ := hI
      rcases turn i m ys σ H w with ⟨stop, qn⟩ | ⟨go, N, hN, step⟩
      · refine wpAny_onRaise (wpAny_mono (T.done X rfl rfl rfl hc i _ s σ H X.xe I (stat acc cc fr) st stop) (fun r' s4 h4 => ?_) fun x s' hx => wpAny_standAt (ee n s₀ x s' hx))
        obtain ⟨hr, I4⟩ := h4
        subst hr
        refine seg_again rfl ?_
        show Seg _ A R (GY X S) n s₀ _ (((execs [] X.env).onRaise (fun x => do noteFrame x X.env; theTreesLotGoes x)) >>= fun f => .pure (Fin.done f)) _ s4
        exact seg_leaf (.ok .next) (k.ok n ys s₀ s4 .next hn ⟨σ, H, ⟨acc, cc, r, I4⟩, qn⟩)
      · refine wpAny_onRaise (wpAny_mono (T.item X rfl rfl rfl hc i _ s σ H X.xe I (stat acc cc fr) st go) (fun r' s4 h4 => ?_) fun x s' hx => wpAny_standAt (ee n s₀ x s' hx))
        obtain ⟨u, hr, h4⟩ := h4
        subst hr
        refine seg_bind_wrap ?_
        rw [(gl _).over]
        refine wpAny_mono h4 (fun _ s5 h5 => ?_) fun x s' hx => ee n s₀ x s' hx
        obtain ⟨x, H5, I5, r5, y5, st5, fr5⟩ := h5
        have I5' := I5.pinned (stat acc cc fr5) (T.obj _ _ st5)
        refine seg_bind_wrap ?_
        rw [(gl _).over]
        refine wpAny_mono (hg.run _ s5 σ H5 x u _ I5' r5 (step x H5 y5)) (fun _ s6 h6 => ?_) fun x s' hx => ee n s₀ x s' hx
        obtain ⟨σ6, H6, I6, q6⟩ := h6
        rw [Sem.bind_eq_wrap', Sem.wrap_wrap]
        refine hb.run A S (ip ++ pinsAt fp s5.heap) R n ys s₀ _ _ _ _ _ _ s6 σ6 H6 { D with nx := N, ct := N, bk := D.nx } ⟨gc.pn, fun p hp => ?_, gc.apart, (gl _).over, (gl _).split, (gl _).guard, rfl⟩ hn ⟨fun n' ys' s₀' s7 f hn' hs => ?_, fun n' s₀' x s3 hx => ee n' s₀' x s3 hx⟩ ⟨acc, cc, r, I6⟩ q6
        · rcases List.mem_append.mp hp with z | z
          · exact gc.ip p z
          · exact neS _ (of_pinsAt z).1
        · have again : ∀ {σ7 : L2.St} {H7 : Hp}, GI X S (ip ++ pinsAt fp s5.heap) ys' σ7 H7 s7 → GI X S ip ys' σ7 H7 s7 ∧ tn (i + 1) s7.heap ∧ ∀ b ∈ fp, H7 b = none := fun {σ7 H7} hI => by
            obtain ⟨acc7, cc7, r7, I7⟩ := hI
            have pin : ∀ b ∈ fp, ∀ o, s5.heap.get? b = some o → s7.heap.get? b = some o ∧ H7 b = none := fun b hb o e => by
              have z := I7.pin (b, o) (List.mem_append_right _ (List.mem_cons_of_mem _ (List.mem_append_right _ (mem_pinsAt hb e))))
              exact ⟨z.1, z.2.1⟩
            have I7' : Inv X ((S, lstObj acc7 cc7) :: ip) σ7 H7 s7 := Inv.unpinned (pins := (S, lstObj acc7 cc7) :: ip) (pl := pinsAt fp s5.heap) I7
            refine ⟨⟨acc7, cc7, r7, I7'⟩, T.keep _ _ _ st5 fun b hb o e => (pin b hb o e).1, fun b hb => ?_⟩
            obtain ⟨o, e, _⟩ := T.obj _ _ st5 b hb
            exact (pin b hb o e).2
          cases f with
          | next =>
            obtain ⟨σ7, H7, I7, n7⟩ := hs
            obtain ⟨m', hm, w7⟩ := hN ys' σ7 H7 n7
            obtain ⟨g1, g2, g3⟩ := again I7
            exact seg_again rfl (ih m' hm (i + 1) n' ys' s₀' s7 σ7 H7 hn' w7 g1 g2 g3)
          | cont =>
            obtain ⟨σ7, H7, I7, n7⟩ := hs
            obtain ⟨m', hm, w7⟩ := hN ys' σ7 H7 n7
            obtain ⟨g1, g2, g3⟩ := again I7
            exact seg_again rfl (ih m' hm (i + 1) n' ys' s₀' s7 σ7 H7 hn' w7 g1 g2 g3)
          | brk =>
            obtain ⟨σ7, H7, I7, q7⟩ := hs
            exact seg_leaf (.ok .next) (k.ok n' ys' s₀' s7 .next hn' ⟨σ7, H7, (again I7).1, q7⟩)
          | ret v =>
            obtain ⟨x7, σ7, H7, I7, r7, q7⟩ := hs
            exact seg_leaf (.ok (.ret v)) (k.ok n' ys' s₀' s7 (.ret v) hn' ⟨x7, σ7, H7, (again I7).1, r7, q7⟩)
  exact loop m0 0 n ys s₀ s2 σ H2 hn w0 ⟨acc0, cc0, r0, I2⟩ st2 fun b hb => (f2 b hb).1
end
end HS
namespace HS
open PySem PySem.Spec PyProof.Rows L2
section
variable {σ : L2.St} {H : Hp} {g : TG} {tb : TGn} {n bk ct : List V → L2.St → Hp → Prop} {rt : List V → VK} {ys : List V}
theorem gfr {wi : TI} (h : wi σ H fun J H1 => ∃ W : Nat → Nat → List V → L2.St → Hp → Prop, (∃ m, W 0 m ys σ H1) ∧ ∀ i m ys σ H, W i m ys σ H →
  (J.stop i H ∧ n ys σ H) ∨ (J.go i H ∧ ∃ N : List V → L2.St → Hp → Prop, (∀ ys' σ' H', N ys' σ' H' → ∃ m', m' < m ∧ W (i + 1) m' ys' σ' H') ∧ ∀ x H', J.yld i H x H' → g x σ H' fun σ2 H2 => tb ⟨N, rt, n, N⟩ ys σ2 H2)) : tGFor wi g tb ⟨n, rt, bk, ct⟩ ys σ H := h
theorem gfor_range {lo : Int} {m : Nat} (Pv : Nat → List V → L2.St → Hp → Prop) (h0 : Pv 0 ys σ H)
    (hs : ∀ i ys σ H, i < m → Pv i ys σ H → g (.int (lo + i)) σ H fun σ2 H2 => tb ⟨Pv (i + 1), rt, n, Pv (i + 1)⟩ ys σ2 H2) (hd : ∀ ys σ H, Pv m ys σ H → n ys σ H) :
    ∃ W : Nat → Nat → List V → L2.St → Hp → Prop, (∃ m, W 0 m ys σ H) ∧ ∀ i m' ys σ H, W i m' ys σ H →
      ((Itr lo m).stop i H ∧ n ys σ H) ∨ ((Itr lo m).go i H ∧ ∃ N : List V → L2.St → Hp → Prop, (∀ ys' σ' H', N ys' σ' H' → ∃ m'', m'' < m' ∧ W (i + 1) m'' ys' σ' H') ∧ ∀ x H', (Itr lo m).yld i H x H' → g x σ H' fun σ2 H2 => tb ⟨N, rt, n, N⟩ ys σ2 H2) := by
  refine ⟨fun i k ys σ H => k = m - i ∧ i ≤ m ∧ Pv i ys σ H, ⟨m, by simp, Nat.zero_le _, h0⟩, ?_⟩
  rintro i k ys σ H ⟨rfl, hi, p⟩
  by_cases hlt : i < m
  · refine .inr ⟨hlt, Pv (i + 1), fun ys' σ' H' p' => ⟨m - (i + 1), by omega, rfl, hlt, p'⟩, fun x H' y => ?_⟩
    obtain ⟨rfl, rfl⟩ := y
    exact hs i ys σ _ hlt p
  · have e : i = m := by omega
    subst e
    exact .inl ⟨Nat.le_refl _, hd ys σ H p⟩
end
end HS
namespace WK05
open PySem PySem.Spec PyProof.Rows L2
local macro_rules | `(tactic| walk_at "ne") => `(tactic| first | assumption | (apply Ne.symm; assumption) | exact ne_of_none (by assumption) (by assumption) | exact (ne_of_none (by assumption) (by assumption)).symm | exact ne_of_none upd_same (by assumption) | exact (ne_of_none upd_same (by assumption)).symm)
local macro_rules | `(tactic| walk_at "hp") => `(tactic| first | assumption | exact upd_same | (rw [upd_ne (by walk_at "ne")]; walk_at "hp"))
local macro_rules | `(tactic| walk_at "side") => `(tactic| first | omega | decide | assumption | exact ⟨by decide, by decide⟩ | exact ⟨by omega, by omega⟩ | exact .inl (by omega) | exact .inr (by omega) | exact .inl (by decide) | exact .inr (by decide) | exact ⟨by decide, by decide, by decide⟩ | exact ⟨by decide, by decide, by omega⟩ | exact .inl ⟨by omega, by omega⟩ | exact .inr ⟨by omega, by omega⟩ | exact .inr ⟨by decide, by decide⟩ | exact .inl ⟨by decide, by decide⟩ | (show _ < _; omega))
local macro_rules | `(tactic| walk_at "len") => `(tactic| ((try simp only [List.length_map, List.length_append, List.length_cons, List.length_nil, List.length_set, List.length_replicate]); omega))
local macro_rules | `(tactic| walk_at "sq") => `(tactic| first | assumption | exact HS.sq (by walk_at "hp"))
local macro_rules | `(tactic| walk_at "st") => `(tactic| first | assumption | exact HS.st (by walk_at "hp"))
local macro_rules | `(tactic| walk_at "h1") => `(tactic| first
  | with_reducible refine HS.seq ?_
  | with_reducible refine HS.asg ?_
  | with_reducible refine HS.nm ?_
  | with_reducible refine HS.var rfl ?_
  | with_reducible refine HS.cst ?_
  | with_reducible refine HS.op ?_
  | with_reducible refine HS.i0 ?_
  | ((with_reducible refine HS.i1 ?_); first | refine ⟨by walk_at "side", ?_⟩ | skip)
  | with_reducible refine HS.u0 ?_
  | with_reducible refine HS.un ?_
  | with_reducible refine HS.eqI ?_
  | with_reducible refine HS.neI ?_
  | with_reducible refine HS.tst ?_
  | with_reducible refine HS.tb1 ?_
  | with_reducible refine HS.bex ?_
  | with_reducible refine HS.ifs ?_
  | with_reducible refine HS.ife ?_
  | with_reducible refine HS.and ?_
  | with_reducible refine HS.or ?_
  | with_reducible refine HS.not ?_
  | with_reducible refine HS.andV ?_
  | with_reducible refine HS.orV ?_
  | with_reducible refine HS.notV ?_
  | with_reducible refine HS.chn ?_
  | with_reducible refine HS.ret ?_
  | with_reducible refine HS.retN ?_
  | with_reducible refine HS.drp ?_
  | with_reducible refine HS.cb ?_
  | with_reducible refine HS.anil ?_
  | with_reducible refine HS.acons ?_
  | with_reducible refine HS.cal ?_
  | with_reducible refine HS.tup ?_
  | with_reducible refine HS.lst ?_
  | with_reducible refine HS.par ?_
  | with_reducible refine HS.ex2 ?_
  | with_reducible refine HS.aug rfl ?_
  | with_reducible refine HS.ipi ?_
  | with_reducible refine HS.addI ?_
  | with_reducible refine HS.nxt ?_
  | with_reducible refine HS.brk ?_
  | with_reducible refine HS.cnt ?_
  | with_reducible refine HS.sub ?_
  | with_reducible refine HS.pnx ?_
  | with_reducible refine HS.prt ?_
  | with_reducible refine HS.pbk ?_
  | with_reducible refine HS.pct ?_
  | with_reducible refine iteF ?_
  | with_reducible refine iteT ?_
  | with_reducible refine HS.ii ?_
  | with_reducible refine HS.bmL ?_
  | with_reducible refine HS.bmL0 ?_
  | ((with_reducible refine' HS.tyL ?e ?_); case e => walk_at "hp")
  | ((with_reducible refine' HS.app ?e ?_); (case e => walk_at "hp"))
  | ((with_reducible refine' HS.setL ?e ?f ?_); (case e => walk_at "hp"); (case f => rfl))
  | ((with_reducible refine' HS.wp ?e ?_); case e => rfl)
  | ((with_reducible refine' HS.szc ?e ?_); case e => walk_at "len")
  | ((with_reducible refine' HS.szd ?e ?_); case e => walk_at "len")
  | with_reducible refine HS.yes ?_
  | with_reducible refine HS.lc ?_
  | with_reducible refine HS.rng1 ?_
  | with_reducible refine HS.rng2 ?_
  | with_reducible refine HS.rng3 ?_
  | with_reducible refine HS.lis ?_
  | with_reducible refine HS.fr ?_
  | with_reducible refine HS.i1e ?_
  | with_reducible refine HS.gthen ?_
  | with_reducible refine HS.g0 ?_
  | with_reducible refine HS.gfr ?_
  | with_reducible refine HS.gpl ?_
  | with_reducible refine HS.gyl ?_
  | with_reducible refine HS.lgn ?_
  | with_reducible refine HS.calg ?_
  | with_reducible refine HS.revL ?_
  | with_reducible refine HS.sl ?_
  | with_reducible refine HS.noP ?_
  | with_reducible refine HS.part ?_
  | with_reducible refine HS.ie ?_
  | ((with_reducible refine' HS.slLs ?e ?_); case e => walk_at "sq")
  | ((with_reducible refine' HS.gtup ?e ?f ?_); (case e => walk_at "st"); (case f => rfl))
  | with_reducible refine HS.gcons ?_
  | with_reducible refine HS.gnil ?_
  | with_reducible refine HS.itup ?_
  | with_reducible refine HS.ienu ?_
  | ((with_reducible refine' HS.cat ?e ?f ?_); (case e => walk_at "hp"); (case f => walk_at "hp"))
  | ((with_reducible refine' HS.ext ?e ?f ?_); (case e => walk_at "hp"); (case f => walk_at "hp"))
  | ((with_reducible refine' HS.sumL ?e ?_); case e => walk_at "sq")
  | ((with_reducible refine' HS.lenL ?e ?_); case e => walk_at "sq")
  | ((with_reducible refine' HS.lenT ?e ?_); case e => walk_at "st")
  | with_reducible refine HS.ra ?_
  | ((with_reducible refine' HS.ixL ?e ?f ?_); (case e => walk_at "sq"); (case f => rfl))
  | ((with_reducible refine' HS.ixT ?e ?f ?_); (case e => walk_at "st"); (case f => rfl)))
local macro_rules | `(tactic| walk_at "hs") => `(tactic| repeat' (walk_at "h1"))
local macro_rules | `(tactic| walk_at "fold") => `(tactic| (walk_at "hs"; assumption))
local macro_rules | `(tactic| walk_at "ns") => `(tactic| first | exact (fun z => z) | assumption | exact HS.nS2 (by walk_at "ne") (by walk_at "ne") | exact HS.nS3 (by walk_at "ne") (by walk_at "ne") (by walk_at "ne"))
local macro_rules | `(tactic| walk_at "kp") => `(tactic| first
  | assumption
  | exact HS.Keep.refl
  | (refine HS.Keep.at ?_ (by first | exact .inl rfl | exact .inr rfl | exact .inr (.inl rfl) | exact .inr (.inr rfl)); walk_at "kp")
  | (refine HS.Keep.put ?_ (by assumption); walk_at "kp")
  | (refine HS.Keep.new' (by assumption) (by first | assumption | exact HS.Keep.refl) (by walk_at "ns") ?_; walk_at "kp"))
def topS (i : Nat) : Stmt := PySem.Challenge.pw_pagecounts_k05_whole_pages_and_longer_ch.main.body.getD i (.Pass ⟨0, 0, 0, 0⟩)
abbrev s__law_source : Stmt := topS 19
abbrev N__law_source : List Str := ["script", "mix", "digits", "cell", "span"]
theorem sc__law_source : FnScope N__law_source ["script"] (defScope s__law_source) := ⟨rfl, rfl, rfl, by decide +kernel, rfl, by decide +kernel, by decide +kernel⟩
abbrev s__law_draw : Stmt := topS 20
abbrev N__law_draw : List Str := ["source", "many", "drawn", "mixed"]
theorem sc__law_draw : FnScope N__law_draw ["source", "many"] (defScope s__law_draw) := ⟨rfl, rfl, rfl, by decide +kernel, rfl, by decide +kernel, by decide +kernel⟩
abbrev s__law_lengths : Stmt := topS 22
abbrev N__law_lengths : List Str := ["source", "many", "wide", "part"]
theorem sc__law_lengths : FnScope N__law_lengths ["source", "many"] (defScope s__law_lengths) := ⟨rfl, rfl, rfl, by decide +kernel, rfl, by decide +kernel, by decide +kernel⟩
abbrev s__law_wide : Stmt := topS 23
abbrev N__law_wide : List Str := ["source", "lengths", "one", "some"]
theorem sc__law_wide : FnScope N__law_wide ["source", "lengths"] (defScope s__law_wide) := ⟨rfl, rfl, rfl, by decide +kernel, rfl, by decide +kernel, by decide +kernel⟩
abbrev s__law_sheets : Stmt := topS 24
abbrev N__law_sheets : List Str := ["long", "wide"]
theorem sc__law_sheets : FnScope N__law_sheets ["long", "wide"] (defScope s__law_sheets) := ⟨rfl, rfl, rfl, by decide +kernel, rfl, by decide +kernel, by decide +kernel⟩
abbrev s_check_book : Stmt := topS 6
abbrev N_check_book : List Str := ["book", "index", "length"]
theorem sc_check_book : FnScope N_check_book ["book"] (defScope s_check_book) := ⟨rfl, rfl, rfl, by decide +kernel, rfl, by decide +kernel, by decide +kernel⟩
abbrev s_check_size : Stmt := topS 7
abbrev N_check_size : List Str := ["size"]
theorem sc_check_size : FnScope N_check_size ["size"] (defScope s_check_size) := ⟨rfl, rfl, rfl, by decide +kernel, rfl, by decide +kernel, by decide +kernel⟩
abbrev s_check_not_negative : Stmt := topS 9
abbrev N_check_not_negative : List Str := ["number"]
theorem sc_check_not_negative : FnScope N_check_not_negative ["number"] (defScope s_check_not_negative) := ⟨rfl, rfl, rfl, by decide +kernel, rfl, by decide +kernel, by decide +kernel⟩
abbrev s_check_number : Stmt := topS 8
abbrev N_check_number : List Str := ["number", "least", "greatest"]
theorem sc_check_number : FnScope N_check_number ["number", "least", "greatest"] (defScope s_check_number) := ⟨rfl, rfl, rfl, by decide +kernel, rfl, by decide +kernel, by decide +kernel⟩
abbrev s_chapter_pages : Stmt := topS 16
abbrev N_chapter_pages : List Str := ["length", "size"]
theorem sc_chapter_pages : FnScope N_chapter_pages ["length", "size"] (defScope s_chapter_pages) := ⟨rfl, rfl, rfl, by decide +kernel, rfl, by decide +kernel, by decide +kernel⟩
abbrev s_count_pages : Stmt := topS 15
abbrev N_count_pages : List Str := ["book", "size", "length"]
theorem sc_count_pages : FnScope N_count_pages ["book", "size"] (defScope s_count_pages) := ⟨rfl, rfl, rfl, by decide +kernel, rfl, by decide +kernel, by decide +kernel⟩
abbrev s_pages : Stmt := topS 11
abbrev N_pages : List Str := ["book", "size"]
theorem sc_pages : FnScope N_pages ["book", "size"] (defScope s_pages) := ⟨rfl, rfl, rfl, by decide +kernel, rfl, by decide +kernel, by decide +kernel⟩
abbrev s_page_of : Stmt := topS 12
abbrev N_page_of : List Str := ["book", "size", "chapter", "line"]
theorem sc_page_of : FnScope N_page_of ["book", "size", "chapter", "line"] (defScope s_page_of) := ⟨rfl, rfl, rfl, by decide +kernel, rfl, by decide +kernel, by decide +kernel⟩
abbrev s_find_chapter : Stmt := topS 17
abbrev N_find_chapter : List Str := ["book", "size", "page", "chapter", "before", "after"]
theorem sc_find_chapter : FnScope N_find_chapter ["book", "size", "page"] (defScope s_find_chapter) := ⟨rfl, rfl, rfl, by decide +kernel, rfl, by decide +kernel, by decide +kernel⟩
abbrev s_lines_on : Stmt := topS 13
abbrev N_lines_on : List Str := ["book", "size", "page", "chapter", "before", "first", "last"]
theorem sc_lines_on : FnScope N_lines_on ["book", "size", "page"] (defScope s_lines_on) := ⟨rfl, rfl, rfl, by decide +kernel, rfl, by decide +kernel, by decide +kernel⟩
abbrev s_counts : Stmt := topS 14
abbrev N_counts : List Str := ["book", "limit", "size"]
theorem sc_counts : GScope N_counts ["book", "limit"] (defScope s_counts) := ⟨rfl, rfl, rfl, by decide +kernel, rfl, by decide +kernel, by decide +kernel⟩
abbrev s__law_great_right : Stmt := topS 27
abbrev N__law_great_right : List Str := ["source", "lengths", "wide", "more", "here", "total", "many", "greater", "later", "cut", "parts", "joined"]
theorem sc__law_great_right : FnScope N__law_great_right ["source", "lengths"] (defScope s__law_great_right) := ⟨rfl, rfl, rfl, by decide +kernel, rfl, by decide +kernel, by decide +kernel⟩
abbrev s__law_small_right : Stmt := topS 26
abbrev N__law_small_right : List Str := ["source", "few", "most", "number", "long", "longer", "wide", "due", "lines_here", "part", "first", "last", "every", "at", "spot"]
theorem sc__law_small_right : FnScope N__law_small_right ["source", "few"] (defScope s__law_small_right) := ⟨rfl, rfl, rfl, by decide +kernel, rfl, by decide +kernel, by decide +kernel⟩
abbrev s_law : Stmt := topS 28
abbrev N_law : List Str := ["script", "source", "k", "lengths", "turn", "few", "part"]
theorem sc_law : FnScope N_law ["script"] (defScope s_law) := ⟨rfl, rfl, rfl, by decide +kernel, rfl, by decide +kernel, by decide +kernel⟩
structure Ad where
  a__law_source : Addr
  d__law_source : FuncData
  a__law_draw : Addr
  d__law_draw : FuncData
  a__law_lengths : Addr
  d__law_lengths : FuncData
  a__law_wide : Addr
  d__law_wide : FuncData
  a__law_sheets : Addr
  d__law_sheets : FuncData
  a_check_book : Addr
  d_check_book : FuncData
  a_check_size : Addr
  d_check_size : FuncData
  a_check_not_negative : Addr
  d_check_not_negative : FuncData
  a_check_number : Addr
  d_check_number : FuncData
  a_chapter_pages : Addr
  d_chapter_pages : FuncData
  a_count_pages : Addr
  d_count_pages : FuncData
  a_pages : Addr
  d_pages : FuncData
  a_page_of : Addr
  d_page_of : FuncData
  a_find_chapter : Addr
  d_find_chapter : FuncData
  a_lines_on : Addr
  d_lines_on : FuncData
  a_counts : Addr
  d_counts : FuncData
  a__law_great_right : Addr
  d__law_great_right : FuncData
  a__law_small_right : Addr
  d__law_small_right : FuncData
  a_law : Addr
  d_law : FuncData
structure Txt (K : PySem.W.Frag) (mg : Str → Option Value) (A : Ad) : Prop where
  F__law_source : Fun K "_law_source" "_law_source" s__law_source A.a__law_source A.d__law_source
  g__law_source : mg "_law_source" = some (.ref A.a__law_source)
  b__law_source : Binds K A.d__law_source ["script"] []
  F__law_draw : Fun K "_law_draw" "_law_draw" s__law_draw A.a__law_draw A.d__law_draw
  g__law_draw : mg "_law_draw" = some (.ref A.a__law_draw)
  b__law_draw : Binds K A.d__law_draw ["source", "many"] []
  F__law_lengths : Fun K "_law_lengths" "_law_lengths" s__law_lengths A.a__law_lengths A.d__law_lengths
  g__law_lengths : mg "_law_lengths" = some (.ref A.a__law_lengths)
  b__law_lengths : Binds K A.d__law_lengths ["source", "many"] []
  F__law_wide : Fun K "_law_wide" "_law_wide" s__law_wide A.a__law_wide A.d__law_wide
  g__law_wide : mg "_law_wide" = some (.ref A.a__law_wide)
  b__law_wide : Binds K A.d__law_wide ["source", "lengths"] []
  F__law_sheets : Fun K "_law_sheets" "_law_sheets" s__law_sheets A.a__law_sheets A.d__law_sheets
  g__law_sheets : mg "_law_sheets" = some (.ref A.a__law_sheets)
  b__law_sheets : Binds K A.d__law_sheets ["long", "wide"] []
  F_check_book : Fun K "check_book" "check_book" s_check_book A.a_check_book A.d_check_book
  g_check_book : mg "check_book" = some (.ref A.a_check_book)
  b_check_book : Binds K A.d_check_book ["book"] []
  F_check_size : Fun K "check_size" "check_size" s_check_size A.a_check_size A.d_check_size
  g_check_size : mg "check_size" = some (.ref A.a_check_size)
  b_check_size : Binds K A.d_check_size ["size"] []
  F_check_not_negative : Fun K "check_not_negative" "check_not_negative" s_check_not_negative A.a_check_not_negative A.d_check_not_negative
  g_check_not_negative : mg "check_not_negative" = some (.ref A.a_check_not_negative)
  b_check_not_negative : Binds K A.d_check_not_negative ["number"] []
  F_check_number : Fun K "check_number" "check_number" s_check_number A.a_check_number A.d_check_number
  g_check_number : mg "check_number" = some (.ref A.a_check_number)
  b_check_number : Binds K A.d_check_number ["number", "least", "greatest"] []
  F_chapter_pages : Fun K "chapter_pages" "chapter_pages" s_chapter_pages A.a_chapter_pages A.d_chapter_pages
  g_chapter_pages : mg "chapter_pages" = some (.ref A.a_chapter_pages)
  b_chapter_pages : Binds K A.d_chapter_pages ["length", "size"] []
  F_count_pages : Fun K "count_pages" "count_pages" s_count_pages A.a_count_pages A.d_count_pages
  g_count_pages : mg "count_pages" = some (.ref A.a_count_pages)
  b_count_pages : Binds K A.d_count_pages ["book", "size"] []
  F_pages : Fun K "pages" "pages" s_pages A.a_pages A.d_pages
  g_pages : mg "pages" = some (.ref A.a_pages)
  b_pages : Binds K A.d_pages ["book", "size"] []
  F_page_of : Fun K "page_of" "page_of" s_page_of A.a_page_of A.d_page_of
  g_page_of : mg "page_of" = some (.ref A.a_page_of)
  b_page_of : Binds K A.d_page_of ["book", "size", "chapter", "line"] []
  F_find_chapter : Fun K "find_chapter" "find_chapter" s_find_chapter A.a_find_chapter A.d_find_chapter
  g_find_chapter : mg "find_chapter" = some (.ref A.a_find_chapter)
  b_find_chapter : Binds K A.d_find_chapter ["book", "size", "page"] []
  F_lines_on : Fun K "lines_on" "lines_on" s_lines_on A.a_lines_on A.d_lines_on
  g_lines_on : mg "lines_on" = some (.ref A.a_lines_on)
  b_lines_on : Binds K A.d_lines_on ["book", "size", "page"] []
  F_counts : Fun K "counts" "counts" s_counts A.a_counts A.d_counts
  g_counts : mg "counts" = some (.ref A.a_counts)
  b_counts : Binds K A.d_counts ["book", "limit"] []
  F__law_great_right : Fun K "_law_great_right" "_law_great_right" s__law_great_right A.a__law_great_right A.d__law_great_right
  g__law_great_right : mg "_law_great_right" = some (.ref A.a__law_great_right)
  b__law_great_right : Binds K A.d__law_great_right ["source", "lengths"] []
  F__law_small_right : Fun K "_law_small_right" "_law_small_right" s__law_small_right A.a__law_small_right A.d__law_small_right
  g__law_small_right : mg "_law_small_right" = some (.ref A.a__law_small_right)
  b__law_small_right : Binds K A.d__law_small_right ["source", "few"] []
  F_law : Fun K "law" "law" s_law A.a_law A.d_law
  g_law : mg "law" = some (.ref A.a_law)
  b_law : Binds K A.d_law ["script"] []
  z_enumerate : mg "enumerate" = none
  z_int : mg "int" = none
  z_len : mg "len" = none
  z_list : mg "list" = none
  z_max : mg "max" = none
  z_min : mg "min" = none
  z_range : mg "range" = none
  z_sum : mg "sum" = none
/-- the source of draws at s, its digits at d; n: at most so many mixed draws so far -/
def Src (H : Hp) (s d : Addr) (n : Nat) : Prop := s ≠ d ∧ ∃ (gs : List Int) (l m c : Int), H s = some (.lst [.ref d, .int l, .int m, .int c]) ∧ H d = some (.lst (gs.map V.int)) ∧ (∀ x ∈ gs, 0 ≤ x) ∧ gs.length ≤ 63 ∧ 0 ≤ l ∧ 0 ≤ m ∧ m < 2 ^ 61 ∧ 0 ≤ c ∧ c ≤ n
/-- lengths of chapters -/
def Book (ls : List Int) : Prop := ∀ x ∈ ls, 1 ≤ x ∧ x < 10 ^ 30
theorem Src.keep {H H' : Hp} {s d : Addr} {n : Nat} (h : Src H s d n) (e1 : H' s = H s) (e2 : H' d = H d) : Src H' s d n := by
  obtain ⟨hsd, gs, l, m, c, h1, h2, h3⟩ := h
  exact ⟨hsd, gs, l, m, c, by rw [e1]; exact h1, by rw [e2]; exact h2, h3⟩
theorem Src.new {H : Hp} {s d p : Addr} {n : Nat} {o : HO} (h : Src H s d n) (hp : H p = none) : Src (upd H p o) s d n := by
  obtain ⟨hsd, gs, l, m, c, h1, h2, h3⟩ := h
  exact ⟨hsd, gs, l, m, c, by rw [upd_ne (ne_of_none h1 hp)]; exact h1, by rw [upd_ne (ne_of_none h2 hp)]; exact h2, h3⟩
theorem Src.put {H : Hp} {s d p : Addr} {n : Nat} {o : HO} (h : Src H s d n) (e1 : p ≠ s) (e2 : p ≠ d) : Src (upd H p o) s d n := by
  obtain ⟨hsd, gs, l, m, c, h1, h2, h3⟩ := h
  exact ⟨hsd, gs, l, m, c, by rw [upd_ne e1.symm]; exact h1, by rw [upd_ne e2.symm]; exact h2, h3⟩
theorem Src.ne1 {H : Hp} {s d p : Addr} {n : Nat} (h : Src H s d n) (hp : H p = none) : p ≠ s := by
  obtain ⟨hsd, gs, l, m, c, h1, h2, h3⟩ := h
  exact (ne_of_none h1 hp).symm
theorem Src.ne2 {H : Hp} {s d p : Addr} {n : Nat} (h : Src H s d n) (hp : H p = none) : p ≠ d := by
  obtain ⟨hsd, gs, l, m, c, h1, h2, h3⟩ := h
  exact (ne_of_none h2 hp).symm
theorem Src.up {H : Hp} {s d : Addr} {n m : Nat} (h : Src H s d n) (e : n ≤ m) : Src H s d m := by
  obtain ⟨hsd, gs, l, m', c, h1, h2, h3, h4, h5, h6, h7, h8, h9⟩ := h
  exact ⟨hsd, gs, l, m', c, h1, h2, h3, h4, h5, h6, h7, h8, by omega⟩
/-- the page count of an edition -/
def pcount (ls : List Int) (j : Int) : Int := (ls.map fun x => (x + j - 1) / j).sum
theorem pcount_nil (j : Int) : pcount [] j = 0 := rfl
theorem pcount_cons (x : Int) (ls : List Int) (j : Int) : pcount (x :: ls) j = (x + j - 1) / j + pcount ls j := by unfold pcount; rw [List.map_cons, List.sum_cons]
theorem pcount_append (xs ys : List Int) (j : Int) : pcount (xs ++ ys) j = pcount xs j + pcount ys j := by unfold pcount; rw [List.map_append, List.sum_append]
/-- a page for each chapter, and one more for each full page of its other lines -/
theorem pcount_less1 {j : Int} (hj : 1 ≤ j) : ∀ ls : List Int, (ls.length : Int) + (ls.map fun x => (x - 1) / j).sum = pcount ls j
  | [] => rfl
  | x :: r => by
    have e : (x + j - 1) / j = (x - 1) / j + 1 := by rw [show x + j - 1 = (x - 1) + j * 1 by omega, Int.add_mul_ediv_left _ _ (by omega)]
    rw [pcount_cons, ← pcount_less1 hj r, e, List.length_cons, List.map_cons, List.sum_cons]
    push_cast
    omega
theorem pcount_take {ls : List Int} {i : Nat} {x : Int} (j : Int) (h : ls[i]? = some x) : pcount (ls.take (i + 1)) j = pcount (ls.take i) j + (x + j - 1) / j := by
  obtain ⟨h1, h2⟩ := List.getElem?_eq_some_iff.mp h
  rw [List.take_add_one, h, pcount_append]
  show _ + pcount [x] j = _
  rw [pcount_cons, pcount_nil]; omega
theorem ceil_pos {x j : Int} (hx : 1 ≤ x) (hj : 1 ≤ j) : 1 ≤ (x + j - 1) / j := by
  rw [Int.le_ediv_iff_mul_le (by omega)]; omega
theorem pcount_len {ls : List Int} {j : Int} (hp : ∀ x ∈ ls, 1 ≤ x) (hj : 1 ≤ j) : (ls.length : Int) ≤ pcount ls j := by
  induction ls with
  | nil => exact Int.le_refl 0
  | cons x r ih =>
    rw [pcount_cons, List.length_cons]
    have := ceil_pos (hp x List.mem_cons_self) hj
    have := ih fun y hy => hp y (List.mem_cons_of_mem _ hy)
    omega
theorem pcount_pos {ls : List Int} {j : Int} (hp : ∀ x ∈ ls, 1 ≤ x) (hj : 1 ≤ j) : 0 ≤ pcount ls j := by
  have := pcount_len hp hj; omega
theorem take_all {ls : List Int} {P : Int → Prop} (h : ∀ x ∈ ls, P x) (n : Nat) : ∀ x ∈ ls.take n, P x := fun x hx => h x (List.mem_of_mem_take hx)
theorem Src.same {H H' : Hp} {s d : Addr} {n : Nat} (h : Src H s d n) (k : HS.Keep (fun _ => False) H H') : Src H' s d n := by
  obtain ⟨hsd, gs, l, m, c, h1, h2, h3⟩ := h
  exact ⟨hsd, gs, l, m, c, k _ _ h1 id, k _ _ h2 id, h3⟩
theorem sum_book {ls : List Int} (h : Book ls) : (ls.length : Int) ≤ ls.sum ∧ ls.sum ≤ ls.length * (10 ^ 30) := by
  induction ls with
  | nil => exact ⟨Int.le_refl _, Int.le_refl _⟩
  | cons x r ih =>
    have := ih fun y hy => h y (List.mem_cons_of_mem _ hy)
    have := h x List.mem_cons_self
    rw [List.sum_cons, List.length_cons]
    push_cast
    omega
/-! Sums of ceilings. -/
theorem ceil_le {x j q : Int} (hj : 1 ≤ j) : (x + j - 1) / j ≤ q ↔ x ≤ q * j := by
  rw [← Int.lt_add_one_iff, Int.ediv_lt_iff_lt_mul (by omega), Int.add_mul]
  omega
theorem ceil_up {x j : Int} (hj : 1 ≤ j) : x ≤ (x + j - 1) / j * j := (ceil_le hj).mp (Int.le_refl _)
theorem ceil_dn {x j : Int} (hj : 1 ≤ j) : (x + j - 1) / j * j ≤ x + j - 1 := Int.ediv_mul_le _ (by omega)
theorem ceil_nonneg {x j : Int} (hx : 0 ≤ x) (hj : 1 ≤ j) : 0 ≤ (x + j - 1) / j := Int.ediv_nonneg (by omega) (by omega)
theorem pcount_up (ls : List Int) {j : Int} (hj : 1 ≤ j) : ls.sum ≤ pcount ls j * j := by
  induction ls with
  | nil => rw [pcount_nil]; simp
  | cons x r ih =>
    rw [pcount_cons, List.sum_cons, Int.add_mul]
    have := ceil_up (x := x) hj
    omega
theorem pcount_ceil (ls : List Int) {j : Int} (hj : 1 ≤ j) : (ls.sum + j - 1) / j ≤ pcount ls j := (ceil_le hj).mpr (pcount_up ls hj)
theorem pcount_dn (ls : List Int) {j : Int} (hj : 1 ≤ j) : (pcount ls j - ls.length) * j ≤ ls.sum - ls.length := by
  induction ls with
  | nil => rw [pcount_nil]; simp
  | cons x r ih =>
    rw [pcount_cons, List.sum_cons, List.length_cons]
    have := ceil_dn (x := x) hj
    have e : ((x + j - 1) / j + pcount r j - ((r.length + 1 : Nat) : Int)) * j = (x + j - 1) / j * j - j + (pcount r j - r.length) * j := by
      rw [show ((x + j - 1) / j + pcount r j - ((r.length + 1 : Nat) : Int)) = ((x + j - 1) / j - 1) + (pcount r j - r.length) by push_cast; omega, Int.add_mul, Int.sub_mul, Int.one_mul]
    rw [e]
    push_cast
    omega
theorem pcount_most (ls : List Int) {j : Int} (hj : 1 ≤ j) : pcount ls j ≤ ls.length + (ls.sum - ls.length) / j := by
  have := (Int.le_ediv_iff_mul_le (by omega : 0 < j)).mpr (pcount_dn ls hj)
  omega
theorem pcount_anti {ls : List Int} {j k : Int} (hp : ∀ x ∈ ls, 1 ≤ x) (hj : 1 ≤ j) (hk : j ≤ k) : pcount ls k ≤ pcount ls j := by
  induction ls with
  | nil => exact Int.le_refl _
  | cons x r ih =>
    rw [pcount_cons, pcount_cons]
    have h1 := ih fun y hy => hp y (List.mem_cons_of_mem _ hy)
    have hx := hp x List.mem_cons_self
    have h2 : (x + k - 1) / k ≤ (x + j - 1) / j := (ceil_le (by omega)).mpr (Int.le_trans (ceil_up hj) (Int.mul_le_mul_of_nonneg_left hk (ceil_nonneg (by omega) hj)))
    omega
theorem pcount_mult {ls : List Int} {j m : Int} (hj : 1 ≤ j) (hm : 1 ≤ m) : pcount ls j ≤ m * pcount ls (j * m) := by
  have hjm : 1 ≤ j * m := by have := Int.mul_le_mul hj hm (by omega) (by omega); omega
  induction ls with
  | nil => rw [pcount_nil, pcount_nil, Int.mul_zero]; exact Int.le_refl _
  | cons x r ih =>
    rw [pcount_cons, pcount_cons, Int.mul_add]
    have h2 : (x + j - 1) / j ≤ m * ((x + j * m - 1) / (j * m)) := (ceil_le hj).mpr (by
      have := ceil_up (x := x) hjm
      rw [show m * ((x + j * m - 1) / (j * m)) * j = (x + j * m - 1) / (j * m) * (j * m) by rw [Int.mul_comm m, Int.mul_assoc, Int.mul_comm m j]]
      exact this)
    omega
theorem pcount_reverse (ls : List Int) (j : Int) : pcount ls.reverse j = pcount ls j := by
  induction ls with
  | nil => rfl
  | cons x r ih => rw [List.reverse_cons, pcount_append, ih, pcount_cons, pcount_cons, pcount_nil]; omega
theorem pcount_cut (ls : List Int) (n : Nat) (j : Int) : pcount (ls.take n) j + pcount (ls.drop n) j = pcount ls j := by
  rw [← pcount_append, List.take_append_drop]
theorem ceil_join {x y j : Int} (hj : 1 ≤ j) : (x + y + j - 1) / j ≤ (x + j - 1) / j + (y + j - 1) / j ∧ (x + j - 1) / j + (y + j - 1) / j ≤ (x + y + j - 1) / j + 1 := by
  have a1 := ceil_up (x := x) hj
  have a2 := ceil_dn (x := x) hj
  have b1 := ceil_up (x := y) hj
  have b2 := ceil_dn (x := y) hj
  have c1 := ceil_up (x := x + y) hj
  refine ⟨(ceil_le hj).mpr (by rw [Int.add_mul]; omega), ?_⟩
  generalize (x + j - 1) / j = p at *
  generalize (y + j - 1) / j = q at *
  generalize (x + y + j - 1) / j = r at *
  apply Int.le_of_lt_add_one
  apply Int.lt_of_not_ge
  intro h
  have h1 : (r + 2) * j ≤ (p + q) * j := Int.mul_le_mul_of_nonneg_right (by omega) (by omega)
  rw [Int.add_mul, Int.add_mul] at h1
  omega
theorem pcount_sum {ls : List Int} {j : Int} (hp : ∀ x ∈ ls, 1 ≤ x) (hl : (ls.length : Int) ≤ ls.sum) (hj : 1 ≤ j) : pcount ls j ≤ ls.sum := by
  have := pcount_most ls hj
  have := Int.ediv_le_self j (show 0 ≤ ls.sum - ls.length by omega)
  omega
/-! Steps and lines of a book. -/
def cnt (ls : List Int) (m : Int) : Int := ((ls.filter fun x => decide (x > m)).length : Nat)
theorem cnt_nil (m : Int) : cnt [] m = 0 := rfl
theorem cnt_cons (x : Int) (ls : List Int) (m : Int) : cnt (x :: ls) m = (if m < x then 1 else 0) + cnt ls m := by
  unfold cnt
  rw [List.filter_cons]
  by_cases h : x > m
  · rw [if_pos (decide_eq_true h), if_pos (show m < x from h), List.length_cons]; omega
  · rw [if_neg (fun z => h (of_decide_eq_true z)), if_neg (fun z => h z)]; omega
def steps (ls : List Int) (w : Int) (n : Nat) : Int := ((List.range n).map fun (i : Nat) => cnt ls ((i : Int) * w)).sum
theorem steps_succ (ls : List Int) (w : Int) (n : Nat) : steps ls w (n + 1) = steps ls w n + cnt ls ((n : Int) * w) := by
  unfold steps; rw [List.range_succ, List.map_append, List.sum_append, List.map_singleton, List.sum_singleton]
theorem steps_nil (w : Int) (n : Nat) : steps [] w n = 0 := by
  induction n with
  | zero => rfl
  | succ n ih => rw [steps_succ, ih, cnt_nil]; rfl
theorem step_one {x w : Int} (hw : 1 ≤ w) (n : Nat) : (((n : Int) * w < x) ↔ (n : Int) < (x + w - 1) / w) := by
  have h := ceil_le (x := x) (q := (n : Int)) hw
  omega
theorem steps_cons (x : Int) (ls : List Int) {w : Int} (hw : 1 ≤ w) (hx : 0 ≤ x) (n : Nat) : steps (x :: ls) w n = min (n : Int) ((x + w - 1) / w) + steps ls w n := by
  have c0 := ceil_nonneg hx hw
  induction n with
  | zero => show (0 : Int) = _ + 0; omega
  | succ n ih =>
    rw [steps_succ, steps_succ, ih, cnt_cons]
    have h := step_one (x := x) hw n
    by_cases g : (n : Int) * w < x
    · rw [if_pos g]; have := h.mp g; omega
    · rw [if_neg g]; have : ¬ (n : Int) < (x + w - 1) / w := fun z => g (h.mpr z)
      omega
theorem ceil_anti {x y w : Int} (hw : 1 ≤ w) (h : x ≤ y) : (x + w - 1) / w ≤ (y + w - 1) / w := Int.ediv_le_ediv (by omega) (by omega)
theorem steps_all {ls : List Int} {w m : Int} (hw : 1 ≤ w) (h : ∀ x ∈ ls, 0 ≤ x ∧ x ≤ m) : steps ls w ((m + 1 + w - 1) / w).toNat = pcount ls w := by
  induction ls with
  | nil => rw [steps_nil, pcount_nil]
  | cons x r ih =>
    have hx := h x List.mem_cons_self
    have h1 := ceil_nonneg hx.1 hw
    have h2 := ceil_anti hw (show x ≤ m + 1 by omega)
    rw [steps_cons x r hw hx.1, ih fun y hy => h y (List.mem_cons_of_mem _ hy), pcount_cons]
    omega
/-- the lines of a chapter and of a book -/
def blk (a n : Int) : List (Int × Int) := (List.range n.toNat).map fun (i : Nat) => (a, (i : Int) + 1)
def seg (a f l : Int) : List (Int × Int) := (List.range (l + 1 - f).toNat).map fun (i : Nat) => (a, f + (i : Int))
theorem blk_zero {a n : Int} (h : n ≤ 0) : blk a n = [] := by unfold blk; rw [show n.toNat = 0 by omega]; rfl
theorem blk_seg {a f l : Int} (h0 : 1 ≤ f) (h1 : f ≤ l + 1) : blk a (f - 1) ++ seg a f l = blk a l := by
  unfold blk seg
  obtain ⟨p, hp⟩ := Int.eq_ofNat_of_zero_le (show 0 ≤ f - 1 by omega)
  obtain ⟨q, hq⟩ := Int.eq_ofNat_of_zero_le (show 0 ≤ l + 1 - f by omega)
  rw [show l.toNat = p + q by omega, hp, hq, Int.toNat_natCast, Int.toNat_natCast, List.range_add, List.map_append, List.map_map]
  congr 1
  apply List.map_congr_left
  intro i _
  show (a, f + (i : Int)) = (a, ((p + i : Nat) : Int) + 1)
  congr 1
  omega
def ev : List Int → Int → List (Int × Int)
  | [], _ => []
  | x :: xs, a => blk a x ++ ev xs (a + 1)
def upto (w : Int) : List Int → Int → Int → List (Int × Int)
  | [], _, _ => []
  | x :: xs, a, q => blk a (min (q * w) x) ++ upto w xs (a + 1) (q - (x + w - 1) / w)
theorem upto_none {w : Int} (hw : 1 ≤ w) : ∀ (ls : List Int) (a q : Int), (∀ x ∈ ls, 1 ≤ x) → q ≤ 0 → upto w ls a q = []
  | [], _, _, _, _ => rfl
  | x :: xs, a, q, hp, hq => by
    have hx := hp x List.mem_cons_self
    have c1 := ceil_pos hx hw
    have c2 : q * w ≤ 0 := Int.mul_nonpos_of_nonpos_of_nonneg hq (by omega)
    show blk a (min (q * w) x) ++ upto w xs (a + 1) (q - (x + w - 1) / w) = []
    rw [blk_zero (by omega), upto_none hw xs (a + 1) _ (fun y hy => hp y (List.mem_cons_of_mem _ hy)) (by omega)]
    rfl
theorem ceil_full {x w q : Int} (hw : 1 ≤ w) (h : (x + w - 1) / w ≤ q) : min (q * w) x = x := by
  have := (ceil_le hw).mp h
  omega
theorem upto_every {w : Int} (hw : 1 ≤ w) : ∀ (ls : List Int) (a : Int), (∀ x ∈ ls, 1 ≤ x) → upto w ls a (pcount ls w) = ev ls a
  | [], _, _ => rfl
  | x :: xs, a, hp => by
    have hx := hp x List.mem_cons_self
    have hr : ∀ y ∈ xs, 1 ≤ y := fun y hy => hp y (List.mem_cons_of_mem _ hy)
    have c1 := pcount_pos hr hw
    show blk a (min (pcount (x :: xs) w * w) x) ++ upto w xs (a + 1) (pcount (x :: xs) w - (x + w - 1) / w) = blk a x ++ ev xs (a + 1)
    rw [pcount_cons, ceil_full hw (by omega), show (x + w - 1) / w + pcount xs w - (x + w - 1) / w = pcount xs w by omega, upto_every hw xs (a + 1) hr]
theorem upto_step {w z : Int} (hw : 1 ≤ w) : ∀ (ls : List Int) (c : Nat) (a q : Int), (∀ x ∈ ls, 1 ≤ x) → ls[c]? = some z → pcount (ls.take c) w < q → q ≤ pcount (ls.take (c + 1)) w →
    upto w ls a (q - 1) ++ seg (a + c) ((q - pcount (ls.take c) w - 1) * w + 1) (min ((q - pcount (ls.take c) w - 1) * w + w) z) = upto w ls a q
  | [], c, _, _, _, h, _, _ => by cases c <;> cases h
  | x :: xs, 0, a, q, hp, h, h1, h2 => by
    have hr : ∀ y ∈ xs, 1 ≤ y := fun y hy => hp y (List.mem_cons_of_mem _ hy)
    have ez : x = z := Option.some.inj h
    subst ez
    have e0 : pcount (List.take 0 (x :: xs)) w = 0 := rfl
    have e1 : pcount (List.take (0 + 1) (x :: xs)) w = (x + w - 1) / w := by
      show pcount [x] w = _; rw [pcount_cons, pcount_nil]; omega
    rw [e0] at h1 ⊢
    rw [e1] at h2
    show (blk a (min ((q - 1) * w) x) ++ upto w xs (a + 1) (q - 1 - (x + w - 1) / w)) ++ _ = blk a (min (q * w) x) ++ upto w xs (a + 1) (q - (x + w - 1) / w)
    rw [upto_none hw xs _ _ hr (by omega), upto_none hw xs _ _ hr (by omega), List.append_nil, List.append_nil]
    have lt : (q - 1) * w < x := by
      have hh := ceil_le (x := x) (q := q - 1) hw
      omega
    have ge : 0 ≤ (q - 1) * w := Int.mul_nonneg (by omega) (by omega)
    have eq : q * w = (q - 1) * w + w := by rw [Int.sub_mul]; omega
    rw [show q - 0 - 1 = q - 1 by omega, eq, show min ((q - 1) * w) x = ((q - 1) * w + 1) - 1 by omega, show a + ((0 : Nat) : Int) = a by omega]
    exact blk_seg (by omega) (by omega)
  | x :: xs, c + 1, a, q, hp, h, h1, h2 => by
    have hx := hp x List.mem_cons_self
    have hr : ∀ y ∈ xs, 1 ≤ y := fun y hy => hp y (List.mem_cons_of_mem _ hy)
    have e1 : pcount (List.take (c + 1) (x :: xs)) w = (x + w - 1) / w + pcount (xs.take c) w := by rw [List.take_succ_cons, pcount_cons]
    have e2 : pcount (List.take (c + 1 + 1) (x :: xs)) w = (x + w - 1) / w + pcount (xs.take (c + 1)) w := by rw [List.take_succ_cons, pcount_cons]
    rw [e1] at h1 ⊢
    rw [e2] at h2
    have p0 := pcount_pos (take_all hr c) hw
    have ih := upto_step (z := z) hw xs c (a + 1) (q - (x + w - 1) / w) hr (by rw [List.getElem?_cons_succ] at h; exact h) (by omega) (by omega)
    show (blk a (min ((q - 1) * w) x) ++ upto w xs (a + 1) (q - 1 - (x + w - 1) / w)) ++ _ = blk a (min (q * w) x) ++ upto w xs (a + 1) (q - (x + w - 1) / w)
    rw [ceil_full hw (show (x + w - 1) / w ≤ q by omega), ceil_full hw (show (x + w - 1) / w ≤ q - 1 by omega), List.append_assoc, ← ih]
    rw [show q - 1 - (x + w - 1) / w = q - (x + w - 1) / w - 1 by omega, show a + ((c + 1 : Nat) : Int) = a + 1 + (c : Nat) by omega, show q - ((x + w - 1) / w + pcount (xs.take c) w) - 1 = q - (x + w - 1) / w - pcount (xs.take c) w - 1 by omega]
theorem ev_snoc : ∀ (ls : List Int) (i : Nat) (x a : Int), ls[i]? = some x → ev (ls.take (i + 1)) a = ev (ls.take i) a ++ blk (a + i) x
  | [], i, _, _, h => by cases i <;> cases h
  | y :: ys, 0, x, a, h => by
    have e : y = x := Option.some.inj h
    subst e
    show blk a y ++ [] = [] ++ blk (a + ((0 : Nat) : Int)) y
    rw [List.append_nil, List.nil_append, show a + ((0 : Nat) : Int) = a by omega]
  | y :: ys, i + 1, x, a, h => by
    have ih := ev_snoc ys i x (a + 1) (by rw [List.getElem?_cons_succ] at h; exact h)
    rw [List.take_succ_cons, List.take_succ_cons]
    show blk a y ++ ev (ys.take (i + 1)) (a + 1) = (blk a y ++ ev (ys.take i) (a + 1)) ++ _
    rw [ih, List.append_assoc, show a + ((i + 1 : Nat) : Int) = a + 1 + (i : Nat) by omega]
theorem sum_small {ls : List Int} (h : ∀ x ∈ ls, 1 ≤ x ∧ x ≤ 60) : (ls.length : Int) ≤ ls.sum ∧ ls.sum ≤ 60 * ls.length := by
  induction ls with
  | nil => exact ⟨Int.le_refl _, Int.le_refl _⟩
  | cons x r ih =>
    have h1 := h x List.mem_cons_self
    have h2 := ih fun y hy => h y (List.mem_cons_of_mem _ hy)
    rw [List.sum_cons, List.length_cons]
    omega

section
variable {P : Program} {w : World} {K : PySem.W.Frag} {mg : Str → Option Value} {base : Heap} {A : Ad}
def sp__law_source (K : PySem.W.Frag) : Sp := fun vs H Q _ => ∃ (a : Addr) (ns : List Int), vs = [.ref a] ∧ (SqL K H a (ns.map V.int) ∧ ns.length ≤ 63 ∧ ∀ H' s d, HS.Keep (fun _ => False) H H' → H s = none → H d = none → Src H' s d 0 → Q (.ref s) H')
theorem ok__law_source (T : Txt K mg A) : FnOk P w K mg base CX0 1 A.a__law_source A.d__law_source ["script"] (sp__law_source K) := by
  refine T.F__law_source.ok sc__law_source (fun vs H Q E h => ?_) (fun cdv A0 outer s H vs Q E hr h => ?_)
  · obtain ⟨a, ns, rfl, hw⟩ := h
    rfl
  · obtain ⟨a, ns, rfl, hw⟩ := h
    refine ⟨_, (pss_cons (ps_set (i := 1) sc__law_source.nd rfl (.inl rfl) pe_int)
    (pss_cons (ps_set (i := 2) sc__law_source.nd rfl (.inl rfl) (pe_lst pa_nil))
    (pss_cons (ps_for PassesOwn.never rfl (HS.kil K (pi_list (pv 0))) (pg_name (i := 3) sc__law_source.nd rfl (.inl rfl))
      (pss_cons (ps_set (i := 1) sc__law_source.nd rfl (.inl rfl) (pe_op op_mod (pe_op op_add (pe_op op_mul (pv 1) pe_int) (pv 3)) (HS.pe_fold (2305843009213693951) (pe_op op_sub (pe_op op_pow pe_int pe_int) pe_int) (by intro σ H Q q; walk_at "fold"))))
    (pss_cons (ps_set (i := 4) sc__law_source.nd rfl (.inl rfl) (pe_callB (call_max2 rfl) (by rfl) T.z_max (by decide +kernel) (pa_cons (pv 3) (pa_cons (pe_op op_sub pe_int (pv 3)) pa_nil))))
    (pss_one (ps_if (pt_cmpR op_ge (pv 4) (HS.pe_fold (1000000000000000000) (pe_op op_pow pe_int pe_int) (by intro σ H Q q; walk_at "fold")) (nomark _))
      (pss_one (ps_expr (HS.kbm K (pe_bm PySem.F.plainAttrs_list PySem.F.slot_list_append PySem.F.type_list_append mt_append (pv 2) (pa_cons (pe_op op_sub (pv 4) (HS.pe_fold (1000000000000000000) (pe_op op_pow pe_int pe_int) (by intro σ H Q q; walk_at "fold"))) pa_nil)))))
      pss_nil)))))
    (pss_one (ps_ret (pe_lst (pa_cons (pv 2) (pa_cons pe_int (pa_cons (pv 1) (pa_cons pe_int pa_nil)))))))))), ?_⟩
    obtain ⟨hS, hl, k⟩ := hw
    walk_at "hs"
    intro d hd
    walk_at "hs"
    refine ⟨⟨_, HS.Keep.sq (S := fun _ => False) (HS.Keep.new hd) hS id⟩, for_list (xs := ns.map V.int) (fun i σ H1 => HS.Keep (fun _ => False) H H1 ∧ ∃ (gs : List Int) (m : Int) (x3 x4 : Option V), σ = [some (.ref a), some (.int m), some (.ref d), x3, x4] ∧ H1 d = some (.lst (gs.map V.int)) ∧ (∀ x ∈ gs, 0 ≤ x) ∧ gs.length ≤ i ∧ 0 ≤ m ∧ m < 2 ^ 61) ?_ ?_ ?_ ?_⟩
    · exact ⟨.new hd, [], _, _, _, rfl, upd_same, by simp, Nat.le_refl _, by decide, by decide⟩
    · rintro i σ H1 _ ⟨K1, _⟩
      exact K1.sq hS id
    · rintro i x σ H1 hi ⟨K1, gs, m, x3, x4, rfl, hgd, hg0, hgl, hm0, hm1⟩
      obtain ⟨z, rfl, _, hil⟩ := HS.get_int hi
      walk_at "hs"
      have b0 : 0 ≤ (m * 1000033 + z) % 2305843009213693951 := Int.emod_nonneg _ (by decide)
      have b1 : (m * 1000033 + z) % 2305843009213693951 < 2 ^ 61 := Int.lt_trans (Int.emod_lt_of_pos _ (by decide)) (by decide)
      generalize hz : (if 0 - z > z then 0 - z else z) = y
      refine HS.itd (fun hy => ?_) (fun hy => ?_)
      · walk_at "hs"
        refine ⟨K1.put hd, gs ++ [y - 1000000000000000000], _, _, _, rfl, ?_, ?_, by simp; omega, b0, b1⟩
        · rw [upd_same, List.map_append]; rfl
        · intro x hx
          rcases List.mem_append.mp hx with hx | hx
          · exact hg0 x hx
          · rw [List.mem_singleton] at hx; omega
      · walk_at "hs"
        exact ⟨K1, gs, _, _, _, rfl, hgd, hg0, by omega, b0, b1⟩
    · rintro σ H1 ⟨K1, gs, m, x3, x4, rfl, hgd, hg0, hgl, hm0, hm1⟩
      walk_at "hs"
      intro s hs
      rw [List.length_map] at hgl
      refine k _ s d (K1.trans (.new hs)) (K1.free hs id) hd ⟨(ne_of_none hgd hs).symm, gs, 0, m, 0, upd_same, by walk_at "hp", hg0, by omega, by decide, hm0, hm1, by decide, by decide⟩
def sp__law_draw (K : PySem.W.Frag) : Sp := fun vs H Q _ => ∃ (s d : Addr) (many : Int) (n : Nat), vs = [.ref s, .int many] ∧ (Src H s d n ∧ 0 < many ∧ many < 2 ^ 200 ∧ n < 2 ^ 40 ∧ ∀ H' v, HS.Keep (fun a => a = s ∨ a = d) H H' → Src H' s d (n + 1) → 0 ≤ v → v < many → Q (.int v) H')
theorem ok__law_draw (T : Txt K mg A) : FnOk P w K mg base CX0 1 A.a__law_draw A.d__law_draw ["source", "many"] (sp__law_draw K) := by
  refine T.F__law_draw.ok sc__law_draw (fun vs H Q E h => ?_) (fun cdv A0 outer s H vs Q E hr h => ?_)
  · obtain ⟨s, d, many, n, rfl, hw⟩ := h
    rfl
  · obtain ⟨s, d, many, n, rfl, hw⟩ := h
    refine ⟨_, (Evl.pss_cut (ps_while PassesOwn.never (PW.pt (pw_and (pt_cmpR op_lt (pe_ix (HS.ixl K) (pv 0) pe_int (fun _ _ => rfl)) pe_int (nomark _)) (pw_and1 (pt_cmpR (HS.kne K (hu64 hr)) (pe_ix (HS.ixl K) (pv 0) pe_int (fun _ _ => rfl)) (pe_lst pa_nil) (nomark _)))))
      (pss_one (ps_asg (HS.kbm K (pe_bm PySem.F.plainAttrs_list PySem.F.slot_list_pop PySem.F.type_list_pop mt_popAt (pe_ix (HS.ixl K) (pv 0) pe_int (fun _ _ => rfl)) (pa_cons pe_int pa_nil))) (pg_sub (pv 0) pe_int set_list))))
    (pss_cons (ps_if (pt_cmpR op_ge (pe_ix (HS.ixl K) (pv 0) pe_int (fun _ _ => rfl)) pe_int (nomark _))
      (pss_cons (ps_set (i := 2) sc__law_draw.nd rfl (.inl rfl) (pe_op op_mod (pe_ix (HS.ixl K) (pv 0) pe_int (fun _ _ => rfl)) (pv 1)))
    (pss_cons (ps_asg (pe_op op_fdivW (pe_ix (HS.ixl K) (pv 0) pe_int (fun _ _ => rfl)) (pv 1)) (pg_sub (pv 0) pe_int set_list))
    (pss_one (ps_ret (pv 2)))))
      pss_nil)
    (pss_cons (ps_asg (pe_op op_add (pe_ix (HS.ixl K) (pv 0) pe_int (fun _ _ => rfl)) pe_int) (pg_sub (pv 0) pe_int set_list))
    (pss_cons (ps_set (i := 3) sc__law_draw.nd rfl (.inl rfl) (pe_op op_mulW (pe_op op_add (pe_ix (HS.ixl K) (pv 0) pe_int (fun _ _ => rfl)) pe_int) (pe_op op_pow (pe_op op_add (pe_ix (HS.ixl K) (pv 0) pe_int (fun _ _ => rfl)) pe_int) pe_int)))
    (pss_cons (ps_set (i := 3) sc__law_draw.nd rfl (.inl rfl) (pe_op op_mod (pe_op op_add (pv 3) (pe_op op_mul pe_int (pe_ix (HS.ixl K) (pv 0) pe_int (fun _ _ => rfl)))) (HS.pe_fold (2305843009213693951) (pe_op op_sub (pe_op op_pow pe_int pe_int) pe_int) (by intro σ H Q q; walk_at "fold"))))
    (pss_one (ps_ret (pe_op op_mod (pe_op op_fdivW (pe_op op_mod (pe_op op_pow (pv 3) pe_int) (HS.pe_fold (1000000000000000009) (pe_op op_add (pe_op op_pow pe_int pe_int) pe_int) (by intro σ H Q q; walk_at "fold"))) pe_int) (pv 1))))))))), ?_⟩
    obtain ⟨S0, hm0, hm1, hn, k⟩ := hw
    obtain ⟨hsd, gs0, l0, m0, c0, hs0, hd0, hg0, hgl0, hl0, hm00, hm01, hc0, hc1⟩ := S0
    refine HS.cut (fun σ H1 => σ = [some (.ref s), some (.int many), none, none] ∧ HS.Keep (fun a => a = s ∨ a = d) H H1 ∧ ∃ (gs : List Int) (l : Int), H1 s = some (.lst [.ref d, .int l, .int m0, .int c0]) ∧ H1 d = some (.lst (gs.map V.int)) ∧ (∀ x ∈ gs, 0 ≤ x) ∧ gs.length ≤ 63 ∧ 0 ≤ l) ?_ ?_
    · refine ⟨fun j σ H1 => σ = [some (.ref s), some (.int many), none, none] ∧ HS.Keep (fun a => a = s ∨ a = d) H H1 ∧ ∃ (gs : List Int) (l : Int), gs.length = j ∧ H1 s = some (.lst [.ref d, .int l, .int m0, .int c0]) ∧ H1 d = some (.lst (gs.map V.int)) ∧ (∀ x ∈ gs, 0 ≤ x) ∧ gs.length ≤ 63 ∧ 0 ≤ l, ⟨_, rfl, .refl, gs0, l0, rfl, hs0, hd0, hg0, hgl0, hl0⟩, ?_⟩
      rintro j σ H1 ⟨rfl, K1, gs, l, rfl, hs1, hd1, hg1, hgl1, hl1⟩
      walk_at "hs"
      refine HS.itd (fun hl => ?_) (fun hl => ?_)
      · walk_at "hs"
        intro p hp
        refine HS.neL (ys := []) (HS.sq (by walk_at "hp")) (HS.sq upd_same) ?_
        walk_at "hs"
        refine HS.itn (fun hgs => ?_) (fun hgs => ?_)
        · cases gs with
          | nil => exact absurd rfl hgs
          | cons y ys =>
            refine ⟨fun σ' H' => σ' = [some (.ref s), some (.int many), none, none] ∧ HS.Keep (fun a => a = s ∨ a = d) H H' ∧ ∃ (l : Int), H' s = some (.lst [.ref d, .int l, .int m0, .int c0]) ∧ H' d = some (.lst (ys.map V.int)) ∧ 0 ≤ l, fun σ' H' ⟨e, K', l', h1, h2, h3⟩ => ⟨ys.length, Nat.lt_succ_self _, e, K', ys, l', rfl, h1, h2, fun x hx => hg1 x (List.mem_cons_of_mem _ hx), Nat.le_of_succ_le hgl1, h3⟩, ?_⟩
            walk_at "hs"
            refine HS.pop0 (y := .int y) (ys := ys.map V.int) (by walk_at "hp") ?_
            walk_at "hs"
            exact ⟨rfl, by walk_at "kp", y, by walk_at "hp", by walk_at "hp", hg1 y List.mem_cons_self⟩
        · walk_at "hs"
          exact ⟨rfl, by walk_at "kp", gs, l, by walk_at "hp", by walk_at "hp", hg1, hgl1, hl1⟩
      · walk_at "hs"
        exact ⟨rfl, K1, gs, l, hs1, hd1, hg1, hgl1, hl1⟩
    · rintro σ H1 ⟨rfl, K1, gs, l, hs1, hd1, hg1, hgl1, hl1⟩
      walk_at "hs"
      refine HS.itd (fun hl => ?_) (fun hl => ?_)
      · walk_at "hs"
        refine ⟨HS.divW 200 hm0 hm1 (by decide) (by decide), ?_⟩
        walk_at "hs"
        exact k _ _ (by walk_at "kp") ⟨hsd, gs, l / many, m0, c0, upd_same, by walk_at "hp", hg1, hgl1, Int.ediv_nonneg hl1 (by omega), hm00, hm01, hc0, by omega⟩ (Int.emod_nonneg _ (by omega)) (Int.emod_lt_of_pos _ hm0)
      · walk_at "hs"
        obtain ⟨p0, p1⟩ := HS.pow_lt (i := c0 + 1 + 3) (a := 50) 3 (by omega) (by omega)
        have p2 : (c0 + 1 + 3) ^ Int.toNat 3 < 2 ^ 150 := by
          rcases p1 with h | h
          · exact h
          · exact absurd h (by decide)
        have p0' : 0 ≤ (c0 + 1 + 3) ^ Int.toNat 3 := p0
        generalize (c0 + 1 + 3) ^ Int.toNat 3 = cu at p2 p0' ⊢
        refine ⟨HS.mulW 62 150 (by omega) (by omega) p0' p2 (by decide) (by decide) (by decide), ?_⟩
        walk_at "hs"
        exact k _ _ (by walk_at "kp") ⟨hsd, gs, l, m0, c0 + 1, upd_same, by walk_at "hp", hg1, hgl1, hl1, hm00, hm01, by omega, by omega⟩ (Int.emod_nonneg _ (by omega)) (Int.emod_lt_of_pos _ hm0)
def sp__law_lengths (K : PySem.W.Frag) : Sp := fun vs H Q _ => ∃ (s d : Addr) (many : Int) (n : Nat), vs = [.ref s, .int many] ∧ (Src H s d n ∧ 0 ≤ many ∧ many ≤ 1000 ∧ n < 2 ^ 39 ∧ ∀ H' p (ls : List Int), HS.Keep (fun a => a = s ∨ a = d) H H' → H p = none → H' p = some (.lst (ls.map V.int)) → ls.length ≤ many → Book ls → Src H' s d (n + 2 + 2 * ls.length) → Q (.ref p) H')
theorem ok__law_lengths (T : Txt K mg A) : FnOk P w K mg base CX0 2 A.a__law_lengths A.d__law_lengths ["source", "many"] (sp__law_lengths K) := by
  have G__law_draw : FnOk P w K mg base CX0 1 A.a__law_draw A.d__law_draw ["source", "many"] (sp__law_draw K) := ok__law_draw T
  refine T.F__law_lengths.ok sc__law_lengths (fun vs H Q E h => ?_) (fun cdv A0 outer s H vs Q E hr h => ?_)
  · obtain ⟨s, d, many, n, rfl, hw⟩ := h
    rfl
  · obtain ⟨s, d, many, n, rfl, hw⟩ := h
    refine ⟨_, (pss_cons (ps_set (i := 2) sc__law_lengths.nd rfl (.inr rfl) (pe_ix (HS.ixl K) (pe_lst (pa_cons pe_int (pa_cons pe_int (pa_cons pe_int (pa_cons pe_int (pa_cons (HS.pe_fold (999999999999999999999999999999) (pe_op op_sub (pe_op op_pow pe_int pe_int) pe_int) (by intro σ H Q q; walk_at "fold")) pa_nil)))))) (pe_call G__law_draw hr (by rfl) T.g__law_draw T.F__law_draw.kp T.b__law_draw .nil pass0 (pa_cons (pv 0) (pa_cons pe_int pa_nil))) (fun _ _ => rfl)))
    (pss_one (ps_ret (pe_lc (own := [("part", 3)]) (g := gName 3) (tt := tYes) rfl sc__law_lengths.nd (pi_range1 (by rfl) T.z_range (pa_cons (pe_call G__law_draw hr (by rfl) T.g__law_draw T.F__law_draw.kp T.b__law_draw .nil pass0 (pa_cons (pv 0) (pa_cons (pe_op op_add (pv 1) pe_int) pa_nil))) pa_nil)) (blkOk_by (own := [("part", 3)]) (N := N__law_lengths) (sc := defScope s__law_lengths) (by decide +kernel)) (fun _ _ _ _ _ => pg_name (i := 3) sc__law_lengths.nd rfl (by first | exact .inl rfl | exact .inr rfl)) (fun _ _ _ _ _ => pts_nil) (fun _ _ _ _ _ => (pe_op op_add pe_int (pe_call G__law_draw hr (by rfl) T.g__law_draw T.F__law_draw.kp T.b__law_draw .nil pass0 (pa_cons (pv 0) (pa_cons (pe_ix (HS.ixl K) (pe_lst (pa_cons (pv 2) (pa_cons (pv 2) (pa_cons pe_int pa_nil)))) (pe_call G__law_draw hr (by rfl) T.g__law_draw T.F__law_draw.kp T.b__law_draw .nil pass0 (pa_cons (pv 0) (pa_cons pe_int pa_nil))) (fun _ _ => rfl)) pa_nil))))))))), ?_⟩
    obtain ⟨S0, hm0, hm1, hn, k⟩ := hw
    walk_at "hs"
    intro p1 hp1
    have e1 := S0.ne1 hp1
    have e2 := S0.ne2 hp1
    walk_at "hs"
    refine ⟨s, d, 5, n, rfl, S0.new hp1, by decide, by decide, by omega, fun H2 v K2 S2 v0 v1 => ?_⟩
    refine HS.ixI [1, 3, 9, 300, 999999999999999999999999999999] (K2.sq (HS.sq upd_same) (by walk_at "ns")) v0 v1 fun wd _ hw => ?_
    have hwd : 1 ≤ wd ∧ wd < 10 ^ 30 := by
      simp only [List.mem_cons, List.not_mem_nil, or_false] at hw
      omega
    have K2' : HS.Keep (fun a => a = s ∨ a = d) H H2 := HS.Keep.trans (HS.Keep.new hp1) K2
    walk_at "hs"
    refine ⟨s, d, many + 1, n + 1, rfl, S2, by omega, by omega, by omega, fun H3 cnt K3 S3 c0 c1 => ?_⟩
    walk_at "hs"
    refine ⟨by omega, by omega, fun D hD => ?_⟩
    have e3 := S3.ne1 hD
    have e4 := S3.ne2 hD
    have hD0 : H D = none := (K2'.trans K3).free hD (by walk_at "ns")
    refine lc_range (lo := 0) (n := cnt.toNat) (fun i H' => HS.Keep (fun a => a = s ∨ a = d) H H' ∧ ∃ ls : List Int, H' D = some (.lst (ls.map V.int)) ∧ ls.length = i ∧ Book ls ∧ Src H' s d (n + 2 + 2 * i)) ?_ ?_ ?_
    · exact ⟨(K2'.trans K3).put hD0, [], upd_same, rfl, fun x hx => absurd hx List.not_mem_nil, S3.new hD⟩
    · rintro i H4 hi ⟨K4, ls, hl, hll, hb, S4⟩
      walk_at "hs"
      intro p2 hp2
      have e5 := S4.ne1 hp2
      have e6 := S4.ne2 hp2
      walk_at "hs"
      refine ⟨s, d, 3, _, rfl, S4.new hp2, by decide, by decide, by omega, fun H5 v K5 S5 v0 v1 => ?_⟩
      refine HS.ixI [wd, wd, 4] (K5.sq (HS.sq upd_same) (by walk_at "ns")) v0 v1 fun wx _ hw => ?_
      have hwx : 1 ≤ wx ∧ wx < 10 ^ 30 := by
        simp only [List.mem_cons, List.not_mem_nil, or_false] at hw
        omega
      walk_at "hs"
      refine ⟨s, d, wx, _, rfl, S5, by omega, by omega, by omega, fun H6 u K6 S6 u0 u1 => ?_⟩
      walk_at "hs"
      have K46 : HS.Keep (fun a => a = s ∨ a = d) H4 H6 := (HS.Keep.new hp2).trans (K5.trans K6)
      have hl6 := K46 _ _ hl (by walk_at "ns")
      refine ⟨_, hl6, HS.sz (by walk_at "len"), (K4.trans K46).put hD0, ls ++ [1 + u], by rw [upd_same, List.map_append]; rfl, by walk_at "len", ?_, (S6.put e3 e4).up (by omega)⟩
      intro x hx
      rcases List.mem_append.mp hx with hx | hx
      · exact hb x hx
      · rw [List.mem_singleton] at hx; omega
    · rintro H4 ⟨K4, ls, hl, hll, hb, S4⟩
      refine k _ _ _ K4 hD0 hl (by omega) hb (S4.up (by omega))
def sp__law_wide (K : PySem.W.Frag) : Sp := fun vs H Q _ => ∃ (s d b : Addr) (ls : List Int) (n : Nat), vs = [.ref s, .ref b] ∧ (Src H s d n ∧ SqL K H b (ls.map V.int) ∧ b ≠ s ∧ b ≠ d ∧ ls.length ≤ 1000 ∧ Book ls ∧ n < 2 ^ 39 ∧ ∀ H' v, HS.Keep (fun a => a = s ∨ a = d) H H' → Src H' s d (n + 6) → 1 ≤ v → v < 10 ^ 30 → Q (.int v) H')
theorem ok__law_wide (T : Txt K mg A) : FnOk P w K mg base CX0 2 A.a__law_wide A.d__law_wide ["source", "lengths"] (sp__law_wide K) := by
  have G__law_draw : FnOk P w K mg base CX0 1 A.a__law_draw A.d__law_draw ["source", "many"] (sp__law_draw K) := ok__law_draw T
  refine T.F__law_wide.ok sc__law_wide (fun vs H Q E h => ?_) (fun cdv A0 outer s H vs Q E hr h => ?_)
  · obtain ⟨s, d, b, ls, n, rfl, hw⟩ := h
    rfl
  · obtain ⟨s, d, b, ls, n, rfl, hw⟩ := h
    refine ⟨_, (pss_cons (ps_set (i := 2) sc__law_wide.nd rfl (.inl rfl) (pe_ifExp (pt_cmpR (HS.kne K (hu64 hr)) (pv 1) (pe_lst pa_nil) (nomark _)) (pe_ix (HS.ixl K) (pv 1) (pe_call G__law_draw hr (by rfl) T.g__law_draw T.F__law_draw.kp T.b__law_draw .nil pass0 (pa_cons (pv 0) (pa_cons (pe_callB (HS.klen K) (by rfl) T.z_len PySem.boot_len (pa_cons (pv 1) pa_nil)) pa_nil))) (fun _ _ => rfl)) pe_int))
    (pss_cons (ps_set (i := 3) sc__law_wide.nd rfl (.inl rfl) (pe_lst (pa_cons (pe_op op_add pe_int (pe_call G__law_draw hr (by rfl) T.g__law_draw T.F__law_draw.kp T.b__law_draw .nil pass0 (pa_cons (pv 0) (pa_cons pe_int pa_nil)))) (pa_cons (pe_op op_sub (pe_op op_add (pv 2) (pe_call G__law_draw hr (by rfl) T.g__law_draw T.F__law_draw.kp T.b__law_draw .nil pass0 (pa_cons (pv 0) (pa_cons pe_int pa_nil)))) pe_int) (pa_cons (pe_op op_add (pe_op op_fdivW (pv 2) (pe_op op_add pe_int (pe_call G__law_draw hr (by rfl) T.g__law_draw T.F__law_draw.kp T.b__law_draw .nil pass0 (pa_cons (pv 0) (pa_cons pe_int pa_nil))))) pe_int) pa_nil)))))
    (pss_one (ps_ret (pe_callB (call_max2 rfl) (by rfl) T.z_max (by decide +kernel) (pa_cons pe_int (pa_cons (pe_callB (call_min2 rfl) (by rfl) T.z_min (by decide +kernel) (pa_cons (HS.pe_fold (999999999999999999999999999999) (pe_op op_sub (pe_op op_pow pe_int pe_int) pe_int) (by intro σ H Q q; walk_at "fold")) (pa_cons (pe_ix (HS.ixl K) (pe_op op_cat (pv 3) (pe_lst (pa_cons (pe_op op_add pe_int (pe_call G__law_draw hr (by rfl) T.g__law_draw T.F__law_draw.kp T.b__law_draw .nil pass0 (pa_cons (pv 0) (pa_cons (HS.pe_fold (999999999999999999999999999999) (pe_op op_sub (pe_op op_pow pe_int pe_int) pe_int) (by intro σ H Q q; walk_at "fold")) pa_nil)))) pa_nil))) (pe_call G__law_draw hr (by rfl) T.g__law_draw T.F__law_draw.kp T.b__law_draw .nil pass0 (pa_cons (pv 0) (pa_cons pe_int pa_nil))) (fun _ _ => rfl)) pa_nil))) pa_nil))))))), ?_⟩
    obtain ⟨S0, hb, bs, bd, hbl, hB, hn, k⟩ := hw
    walk_at "hs"
    intro p1 hp1
    have e1 := S0.ne1 hp1
    have e2 := S0.ne2 hp1
    refine HS.neL (ys := []) (HS.Keep.sq (S := fun a => a = s ∨ a = d) (HS.Keep.new hp1) hb (by walk_at "ns")) (HS.sq upd_same) ?_
    walk_at "hs"
    refine HS.iteM (fun v H' => ∃ one, v = .int one ∧ HS.Keep (fun a => a = s ∨ a = d) H H' ∧ Src H' s d (n + 1) ∧ 1 ≤ one ∧ one < 10 ^ 30) (fun hc Q' k' => ?_) (fun hc Q' k' => ?_) ?_
    · have hne : ls ≠ [] := fun z => by rw [z] at hc; exact absurd hc (by decide)
      have hpos : 0 < ls.length := List.length_pos_iff.mpr hne
      have hb' : SqL K (upd H p1 (.lst [])) b (ls.map V.int) := HS.Keep.sq (S := fun a => a = s ∨ a = d) (HS.Keep.new hp1) hb (by walk_at "ns")
      walk_at "hs"
      refine ⟨s, d, _, n, rfl, S0.new hp1, by rw [List.length_map]; omega, by rw [List.length_map]; omega, by omega, fun H2 v K2 S2 v0 v1 => ?_⟩
      rw [List.length_map] at v1
      refine HS.ixI ls (K2.sq hb' (by walk_at "ns")) v0 v1 fun z _ hz => ?_
      exact k' _ _ ⟨z, rfl, HS.Keep.trans (HS.Keep.new hp1) K2, S2, hB z hz⟩
    · exact k' _ _ ⟨7, rfl, HS.Keep.new hp1, (S0.new hp1).up (by omega), by decide, by decide⟩
    · rintro v H2 ⟨one, rfl, K2, S2, o0, o1⟩
      walk_at "hs"
      refine ⟨s, d, _, _, rfl, S2, by decide, by decide, by omega, fun H3 v3 K3 S3 v30 v31 => ?_⟩
      walk_at "hs"
      refine ⟨s, d, _, _, rfl, S3, by decide, by decide, by omega, fun H4 v4 K4 S4 v40 v41 => ?_⟩
      walk_at "hs"
      refine ⟨s, d, _, _, rfl, S4, by decide, by decide, by omega, fun H5 v5 K5 S5 v50 v51 => ?_⟩
      walk_at "hs"
      refine ⟨HS.divW 200 (by omega) (by omega) (by decide) (by decide), ?_⟩
      walk_at "hs"
      intro p2 hp2
      have e3 := S5.ne1 hp2
      have e4 := S5.ne2 hp2
      walk_at "hs"
      refine ⟨s, d, _, _, rfl, S5.new hp2, by decide, by decide, by omega, fun H6 v6 K6 S6 v60 v61 => ?_⟩
      have hp26 := K6 _ _ (upd_same (H := H5) (a := p2)) (by walk_at "ns")
      walk_at "hs"
      intro p3 hp3
      have e5 := S6.ne1 hp3
      have e6 := S6.ne2 hp3
      walk_at "hs"
      intro p4 hp4
      have S7 := (S6.new (o := .lst [.int (1 + v6)]) hp3)
      have e7 := S7.ne1 hp4
      have e8 := S7.ne2 hp4
      walk_at "hs"
      refine ⟨s, d, _, _, rfl, S7.new hp4, by decide, by decide, by omega, fun H8 v8 K8 S8 v80 v81 => ?_⟩
      have hp48 := K8 _ _ upd_same (show ¬ (p4 = s ∨ p4 = d) by walk_at "ns")
      refine HS.ixI [1 + v3, one + v4 - 1, one / (1 + v5) + 1, 1 + v6] (HS.sq hp48) v80 v81 fun z _ _ => ?_
      walk_at "hs"
      have KK : HS.Keep (fun a => a = s ∨ a = d) H H8 := K2.trans (K3.trans (K4.trans (K5.trans ((HS.Keep.new hp2).trans (K6.trans ((HS.Keep.new hp3).trans ((HS.Keep.new hp4).trans K8)))))))
      refine k _ _ KK (S8.up (by omega)) ?_ ?_
      · split <;> omega
      · split <;> split at * <;> omega
def sp__law_sheets (K : PySem.W.Frag) : Sp := fun vs H Q _ => ∃ (i j : Int), vs = [.int i, .int j] ∧ (1 ≤ j ∧ j < 2 ^ 200 ∧ Q (.int ((i + j - 1) / j)) H)
theorem ok__law_sheets (T : Txt K mg A) : FnOk P w K mg base CX0 1 A.a__law_sheets A.d__law_sheets ["long", "wide"] (sp__law_sheets K) := by
  refine T.F__law_sheets.ok sc__law_sheets (fun vs H Q E h => ?_) (fun cdv A0 outer s H vs Q E hr h => ?_)
  · obtain ⟨i, j, rfl, hw⟩ := h
    rfl
  · obtain ⟨i, j, rfl, hw⟩ := h
    refine ⟨_, (pss_one (ps_ret (pe_op op_add (pe_op op_fdivW (pv 0) (pv 1)) (pe_callTy call_int1 (by rfl) T.z_int (by decide +kernel) (pa_cons (pe_cmpR op_gt (pe_op op_mod (pv 0) (pv 1)) pe_int (nomark _)) pa_nil))))), ?_⟩
    obtain ⟨h2, h3, k⟩ := hw
    walk_at "hs"
    refine ⟨HS.divW 200 (by omega) h3 (by decide) (by decide), ?_⟩
    walk_at "hs"
    refine .inr ⟨_, rfl, ?_⟩
    walk_at "hs"
    simp only [decide_eq_true_eq]
    rw [← HS.ceil_eq h2]
    exact k
def sp_check_book (K : PySem.W.Frag) : Sp := fun vs H Q _ => ∃ (b : Addr) (ls : List Int), vs = [.ref b] ∧ (SqL K H b (ls.map V.int) ∧ (∀ x ∈ ls, 1 ≤ x) ∧ ∀ H', HS.Keep (fun _ => False) H H' → Q .non H')
theorem ok_check_book (T : Txt K mg A) : FnOk P w K mg base CX0 1 A.a_check_book A.d_check_book ["book"] (sp_check_book K) := by
  refine T.F_check_book.ok sc_check_book (fun vs H Q E h => ?_) (fun cdv A0 outer s H vs Q E hr h => ?_)
  · obtain ⟨b, ls, rfl, hw⟩ := h
    rfl
  · obtain ⟨b, ls, rfl, hw⟩ := h
    refine ⟨_, (pss_one (ps_for PassesOwn.never rfl (HS.kien K (pi_enum (by rfl) T.z_enumerate (pa_cons (pv 0) pa_nil))) (HS.kgt K (pg_tup rfl (pgs_cons (pg_name (i := 1) sc_check_book.nd rfl (.inl rfl)) (pgs_cons (pg_name (i := 2) sc_check_book.nd rfl (.inl rfl)) pgs_nil))))
      (pss_one (ps_if (pt_cmpR op_lt (pv 2) pe_int (nomark _))
      (pss_one ps_never)
      pss_nil)))), ?_⟩
    obtain ⟨hb, hl, k⟩ := hw
    walk_at "hs"
    refine ⟨b, ls.map V.int, rfl, hb, for_it walk_enum (fun i σ H' => HS.Keep (fun _ => False) H H' ∧ ∃ x1 x2, σ = [some (.ref b), x1, x2]) ⟨.refl, _, _, rfl⟩ (fun i σ H' _ ⟨K', _⟩ => K'.sq hb id) ?_ ?_⟩
    · rintro i x σ H1 H2 hi ⟨K1, x1, x2, rfl⟩ ⟨T1, u, v, rfl, hT, rfl, e1, e2⟩
      cases e1
      obtain ⟨z, rfl, hz, _⟩ := HS.get_int e2
      have hz1 := hl z (List.mem_of_getElem? hz)
      walk_at "hs"
      refine HS.it0 (by omega) ?_
      walk_at "hs"
      exact ⟨K1.put (K1.free hT id), _, _, rfl⟩
    · rintro σ H1 ⟨K1, x1, x2, rfl⟩
      walk_at "hs"
      exact k _ K1
def sp_check_size (K : PySem.W.Frag) : Sp := fun vs H Q _ => ∃ (j : Int), vs = [.int j] ∧ (1 ≤ j ∧ Q .non H)
theorem ok_check_size (T : Txt K mg A) : FnOk P w K mg base CX0 1 A.a_check_size A.d_check_size ["size"] (sp_check_size K) := by
  refine T.F_check_size.ok sc_check_size (fun vs H Q E h => ?_) (fun cdv A0 outer s H vs Q E hr h => ?_)
  · obtain ⟨j, rfl, hw⟩ := h
    rfl
  · obtain ⟨j, rfl, hw⟩ := h
    refine ⟨_, (pss_one (ps_if (pt_cmpR op_lt (pv 0) pe_int (nomark _))
      (pss_one ps_never)
      pss_nil)), ?_⟩
    obtain ⟨h, k⟩ := hw
    walk_at "hs"
    refine HS.it0 (by omega) ?_
    walk_at "hs"
    exact k
def sp_check_not_negative (K : PySem.W.Frag) : Sp := fun vs H Q _ => ∃ (j : Int), vs = [.int j] ∧ (0 ≤ j ∧ Q .non H)
theorem ok_check_not_negative (T : Txt K mg A) : FnOk P w K mg base CX0 1 A.a_check_not_negative A.d_check_not_negative ["number"] (sp_check_not_negative K) := by
  refine T.F_check_not_negative.ok sc_check_not_negative (fun vs H Q E h => ?_) (fun cdv A0 outer s H vs Q E hr h => ?_)
  · obtain ⟨j, rfl, hw⟩ := h
    rfl
  · obtain ⟨j, rfl, hw⟩ := h
    refine ⟨_, (pss_one (ps_if (pt_cmpR op_lt (pv 0) pe_int (nomark _))
      (pss_one ps_never)
      pss_nil)), ?_⟩
    obtain ⟨h, k⟩ := hw
    walk_at "hs"
    refine HS.it0 (by omega) ?_
    walk_at "hs"
    exact k
def sp_check_number (K : PySem.W.Frag) : Sp := fun vs H Q _ => ∃ (i lo hi : Int), vs = [.int i, .int lo, .int hi] ∧ (lo ≤ i ∧ i ≤ hi ∧ Q .non H)
theorem ok_check_number (T : Txt K mg A) : FnOk P w K mg base CX0 1 A.a_check_number A.d_check_number ["number", "least", "greatest"] (sp_check_number K) := by
  refine T.F_check_number.ok sc_check_number (fun vs H Q E h => ?_) (fun cdv A0 outer s H vs Q E hr h => ?_)
  · obtain ⟨i, lo, hi, rfl, hw⟩ := h
    rfl
  · obtain ⟨i, lo, hi, rfl, hw⟩ := h
    refine ⟨_, (pss_one (ps_if (PW.pt (pw_or (pt_cmpR op_lt (pv 0) (pv 1) (nomark _)) (pw_or1 (pt_cmpR op_gt (pv 0) (pv 2) (nomark _)))))
      (pss_one ps_never)
      pss_nil)), ?_⟩
    obtain ⟨h1, h2, k⟩ := hw
    walk_at "hs"
    refine HS.it0 (by omega) ?_
    walk_at "hs"
    refine HS.it0 (by omega) ?_
    walk_at "hs"
    exact k
def sp_chapter_pages (K : PySem.W.Frag) : Sp := fun vs H Q _ => ∃ (i j : Int), vs = [.int i, .int j] ∧ (1 ≤ j ∧ j < 2 ^ 200 ∧ Q (.int ((i + j - 1) / j)) H)
theorem ok_chapter_pages (T : Txt K mg A) : FnOk P w K mg base CX0 1 A.a_chapter_pages A.d_chapter_pages ["length", "size"] (sp_chapter_pages K) := by
  refine T.F_chapter_pages.ok sc_chapter_pages (fun vs H Q E h => ?_) (fun cdv A0 outer s H vs Q E hr h => ?_)
  · obtain ⟨i, j, rfl, hw⟩ := h
    rfl
  · obtain ⟨i, j, rfl, hw⟩ := h
    refine ⟨_, (pss_one (ps_ret (pe_op op_fdivW (pe_op op_sub (pe_op op_add (pv 0) (pv 1)) pe_int) (pv 1)))), ?_⟩
    obtain ⟨h1, h2, k⟩ := hw
    walk_at "hs"
    refine ⟨HS.divW 200 (by omega) h2 (by decide) (by decide), ?_⟩
    exact k
def sp_count_pages (K : PySem.W.Frag) : Sp := fun vs H Q _ => ∃ (b : Addr) (ls : List Int) (j : Int), vs = [.ref b, .int j] ∧ (SqL K H b (ls.map V.int) ∧ ls.length ≤ 50000 ∧ 1 ≤ j ∧ j < 2 ^ 200 ∧ ∀ H', HS.Keep (fun _ => False) H H' → Q (.int (pcount ls j)) H')
theorem ok_count_pages (T : Txt K mg A) : FnOk P w K mg base CX0 2 A.a_count_pages A.d_count_pages ["book", "size"] (sp_count_pages K) := by
  refine T.F_count_pages.ok sc_count_pages (fun vs H Q E h => ?_) (fun cdv A0 outer s H vs Q E hr h => ?_)
  · obtain ⟨b, ls, j, rfl, hw⟩ := h
    rfl
  · obtain ⟨b, ls, j, rfl, hw⟩ := h
    refine ⟨_, (pss_one (ps_ret (pe_op op_add (pe_callB (HS.klen K) (by rfl) T.z_len PySem.boot_len (pa_cons (pv 0) pa_nil)) (pe_callB (HS.ksum K rfl) (by rfl) T.z_sum (by decide +kernel) (pa_cons (pe_lc (own := [("length", 2)]) (g := gName 2) (tt := tYes) rfl sc_count_pages.nd (HS.kil K (pi_list (pv 0))) (blkOk_by (own := [("length", 2)]) (N := N_count_pages) (sc := defScope s_count_pages) (by decide +kernel)) (fun _ _ _ _ _ => pg_name (i := 2) sc_count_pages.nd rfl (by first | exact .inl rfl | exact .inr rfl)) (fun _ _ _ _ _ => pts_nil) (fun _ _ _ _ _ => (pe_op op_fdivW (pe_op op_sub (pv 2) pe_int) (pv 1)))) pa_nil))))), ?_⟩
    obtain ⟨hb, hl, h1, h2, k⟩ := hw
    walk_at "hs"
    rw [List.length_map]
    refine ⟨⟨_, hb⟩, fun D hD => lc_list (xs := ls.map V.int) (fun i H' => HS.Keep (fun _ => False) H H' ∧ H' D = some (.lst (((ls.take i).map fun x => (x - 1) / j).map V.int))) ⟨.new hD, upd_same⟩ (fun i H' _ ⟨K', _⟩ => K'.sq hb id) ?_ ?_⟩
    · rintro i x H1 hi ⟨K1, h3⟩
      obtain ⟨z, rfl, hz, hil⟩ := HS.get_int hi
      walk_at "hs"
      refine ⟨HS.divW 200 (by omega) h2 (by decide) (by decide), ?_⟩
      refine ⟨_, h3, HS.sz (by simp; omega), K1.put hD, ?_⟩
      rw [upd_same, List.take_add_one, hz, List.map_append, List.map_append]
      rfl
    · rintro H1 ⟨K1, h3⟩
      rw [List.length_map, List.take_length] at h3
      walk_at "hs"
      rw [pcount_less1 h1]
      exact k _ K1
def sp_pages (K : PySem.W.Frag) : Sp := fun vs H Q _ => ∃ (b : Addr) (ls : List Int) (j : Int), vs = [.ref b, .int j] ∧ (SqL K H b (ls.map V.int) ∧ (∀ x ∈ ls, 1 ≤ x) ∧ ls.length ≤ 50000 ∧ 1 ≤ j ∧ j < 2 ^ 200 ∧ ∀ H', HS.Keep (fun _ => False) H H' → Q (.int (pcount ls j)) H')
theorem ok_pages (T : Txt K mg A) : FnOk P w K mg base CX0 3 A.a_pages A.d_pages ["book", "size"] (sp_pages K) := by
  have G_check_book : FnOk P w K mg base CX0 1 A.a_check_book A.d_check_book ["book"] (sp_check_book K) := ok_check_book T
  have G_check_size : FnOk P w K mg base CX0 1 A.a_check_size A.d_check_size ["size"] (sp_check_size K) := ok_check_size T
  have G_count_pages : FnOk P w K mg base CX0 2 A.a_count_pages A.d_count_pages ["book", "size"] (sp_count_pages K) := ok_count_pages T
  refine T.F_pages.ok sc_pages (fun vs H Q E h => ?_) (fun cdv A0 outer s H vs Q E hr h => ?_)
  · obtain ⟨b, ls, j, rfl, hw⟩ := h
    rfl
  · obtain ⟨b, ls, j, rfl, hw⟩ := h
    refine ⟨_, (pss_cons (ps_expr (pe_call G_check_book (hr.mono (by decide)) (by rfl) T.g_check_book T.F_check_book.kp T.b_check_book .nil pass0 (pa_cons (pv 0) pa_nil)))
    (pss_cons (ps_expr (pe_call G_check_size (hr.mono (by decide)) (by rfl) T.g_check_size T.F_check_size.kp T.b_check_size .nil pass0 (pa_cons (pv 1) pa_nil)))
    (pss_one (ps_ret (pe_call G_count_pages hr (by rfl) T.g_count_pages T.F_count_pages.kp T.b_count_pages .nil pass0 (pa_cons (pv 0) (pa_cons (pv 1) pa_nil))))))), ?_⟩
    obtain ⟨hb, hp, hl, h1, h2, k⟩ := hw
    walk_at "hs"
    refine ⟨b, ls, rfl, hb, hp, fun H1 K1 => ?_⟩
    walk_at "hs"
    refine ⟨j, rfl, h1, ?_⟩
    walk_at "hs"
    refine ⟨b, ls, j, rfl, K1.sq hb id, hl, h1, h2, fun H2 K2 => k _ (K1.trans K2)⟩
def sp_page_of (K : PySem.W.Frag) : Sp := fun vs H Q _ => ∃ (b : Addr) (ls : List Int) (j c i z : Int), vs = [.ref b, .int j, .int c, .int i] ∧ (SqL K H b (ls.map V.int) ∧ (∀ x ∈ ls, 1 ≤ x) ∧ ls.length ≤ 50000 ∧ 1 ≤ j ∧ j < 2 ^ 200 ∧ 1 ≤ c ∧ ls[(c - 1).toNat]? = some z ∧ 1 ≤ i ∧ i ≤ z ∧ ∀ H', HS.Keep (fun _ => False) H H' → Q (.int (pcount (ls.take (c - 1).toNat) j + (i + j - 1) / j)) H')
theorem ok_page_of (T : Txt K mg A) : FnOk P w K mg base CX0 3 A.a_page_of A.d_page_of ["book", "size", "chapter", "line"] (sp_page_of K) := by
  have G_check_book : FnOk P w K mg base CX0 1 A.a_check_book A.d_check_book ["book"] (sp_check_book K) := ok_check_book T
  have G_check_size : FnOk P w K mg base CX0 1 A.a_check_size A.d_check_size ["size"] (sp_check_size K) := ok_check_size T
  have G_check_number : FnOk P w K mg base CX0 1 A.a_check_number A.d_check_number ["number", "least", "greatest"] (sp_check_number K) := ok_check_number T
  have G_count_pages : FnOk P w K mg base CX0 2 A.a_count_pages A.d_count_pages ["book", "size"] (sp_count_pages K) := ok_count_pages T
  have G_chapter_pages : FnOk P w K mg base CX0 1 A.a_chapter_pages A.d_chapter_pages ["length", "size"] (sp_chapter_pages K) := ok_chapter_pages T
  refine T.F_page_of.ok sc_page_of (fun vs H Q E h => ?_) (fun cdv A0 outer s H vs Q E hr h => ?_)
  · obtain ⟨b, ls, j, c, i, z, rfl, hw⟩ := h
    rfl
  · obtain ⟨b, ls, j, c, i, z, rfl, hw⟩ := h
    refine ⟨_, (pss_cons (ps_expr (pe_call G_check_book (hr.mono (by decide)) (by rfl) T.g_check_book T.F_check_book.kp T.b_check_book .nil pass0 (pa_cons (pv 0) pa_nil)))
    (pss_cons (ps_expr (pe_call G_check_size (hr.mono (by decide)) (by rfl) T.g_check_size T.F_check_size.kp T.b_check_size .nil pass0 (pa_cons (pv 1) pa_nil)))
    (pss_cons (ps_expr (pe_call G_check_number (hr.mono (by decide)) (by rfl) T.g_check_number T.F_check_number.kp T.b_check_number .nil pass0 (pa_cons (pv 2) (pa_cons pe_int (pa_cons (pe_callB (HS.klen K) (by rfl) T.z_len PySem.boot_len (pa_cons (pv 0) pa_nil)) pa_nil)))))
    (pss_cons (ps_expr (pe_call G_check_number (hr.mono (by decide)) (by rfl) T.g_check_number T.F_check_number.kp T.b_check_number .nil pass0 (pa_cons (pv 3) (pa_cons pe_int (pa_cons (pe_ix (HS.ixl K) (pv 0) (pe_op op_sub (pv 2) pe_int) (fun _ _ => rfl)) pa_nil)))))
    (pss_one (ps_ret (pe_op op_add (pe_call G_count_pages hr (by rfl) T.g_count_pages T.F_count_pages.kp T.b_count_pages .nil pass0 (pa_cons (pe_slice (HS.sll K) (pv 0) po_none (po_some (pe_op op_sub (pv 2) pe_int))) (pa_cons (pv 1) pa_nil))) (pe_call G_chapter_pages (hr.mono (by decide)) (by rfl) T.g_chapter_pages T.F_chapter_pages.kp T.b_chapter_pages .nil pass0 (pa_cons (pv 3) (pa_cons (pv 1) pa_nil)))))))))), ?_⟩
    obtain ⟨hb, hp, hl, h1, h2, hc, hz, hi, hiz, k⟩ := hw
    have hcl : c ≤ ls.length := by have := (List.getElem?_eq_some_iff.mp hz).1; omega
    walk_at "hs"
    refine ⟨b, ls, rfl, hb, hp, fun H1 K1 => ?_⟩
    have hb1 := K1.sq hb id
    walk_at "hs"
    refine ⟨j, rfl, h1, ?_⟩
    walk_at "hs"
    refine ⟨c, 1, _, rfl, hc, by rw [List.length_map]; exact hcl, ?_⟩
    walk_at "hs"
    refine HS.ixZ hb1 (by omega) hz ?_
    walk_at "hs"
    refine ⟨i, 1, z, rfl, hi, hiz, ?_⟩
    walk_at "hs"
    intro p1 hp1
    have K2 : HS.Keep (fun _ => False) H (upd H1 p1 (.lst ((ls.take (c - 1).toNat).map V.int))) := K1.put (K1.free hp1 id)
    have ec : cutV (ls.map V.int) none (some (c - 1)) = (ls.take (c - 1).toNat).map V.int := by
      rw [show c - 1 = (((c - 1).toNat : Nat) : Int) by omega, HS.cut_to, List.map_take]; simp
    rw [ec]
    walk_at "hs"
    refine ⟨p1, _, j, rfl, HS.sq upd_same, by rw [List.length_take]; omega, h1, h2, fun H3 K3 => ?_⟩
    walk_at "hs"
    refine ⟨i, j, rfl, h1, h2, ?_⟩
    walk_at "hs"
    exact k _ (K2.trans K3)
def sp_find_chapter (K : PySem.W.Frag) : Sp := fun vs H Q _ => ∃ (b : Addr) (ls : List Int) (j q : Int), vs = [.ref b, .int j, .int q] ∧ (SqL K H b (ls.map V.int) ∧ 1 ≤ j ∧ j < 2 ^ 200 ∧ 1 ≤ q ∧ q ≤ pcount ls j ∧ ∀ H' t c, HS.Keep (fun _ => False) H H' → H t = none → H' t = some (.tup [.int ((c + 1 : Nat) : Int), .int (pcount (ls.take c) j)]) → c < ls.length → pcount (ls.take c) j < q → q ≤ pcount (ls.take (c + 1)) j → Q (.ref t) H')
theorem ok_find_chapter (T : Txt K mg A) : FnOk P w K mg base CX0 2 A.a_find_chapter A.d_find_chapter ["book", "size", "page"] (sp_find_chapter K) := by
  have G_chapter_pages : FnOk P w K mg base CX0 1 A.a_chapter_pages A.d_chapter_pages ["length", "size"] (sp_chapter_pages K) := ok_chapter_pages T
  refine T.F_find_chapter.ok sc_find_chapter (fun vs H Q E h => ?_) (fun cdv A0 outer s H vs Q E hr h => ?_)
  · obtain ⟨b, ls, j, q, rfl, hw⟩ := h
    rfl
  · obtain ⟨b, ls, j, q, rfl, hw⟩ := h
    refine ⟨_, (pss_cons (ps_set (i := 3) sc_find_chapter.nd rfl (.inl rfl) pe_int)
    (pss_cons (ps_set (i := 4) sc_find_chapter.nd rfl (.inl rfl) pe_int)
    (pss_cons (ps_set (i := 5) sc_find_chapter.nd rfl (.inl rfl) (pe_call G_chapter_pages hr (by rfl) T.g_chapter_pages T.F_chapter_pages.kp T.b_chapter_pages .nil pass0 (pa_cons (pe_ix (HS.ixl K) (pv 0) pe_int (fun _ _ => rfl)) (pa_cons (pv 1) pa_nil))))
    (pss_cons (ps_while PassesOwn.never (pt_cmpR op_lt (pv 5) (pv 2) (nomark _))
      (pss_cons (ps_set (i := 4) sc_find_chapter.nd rfl (.inl rfl) (pv 5))
    (pss_cons (ps_set (i := 5) sc_find_chapter.nd rfl (.inl rfl) (pe_op op_add (pv 4) (pe_call G_chapter_pages hr (by rfl) T.g_chapter_pages T.F_chapter_pages.kp T.b_chapter_pages .nil pass0 (pa_cons (pe_ix (HS.ixl K) (pv 0) (pv 3) (fun _ _ => rfl)) (pa_cons (pv 1) pa_nil)))))
    (pss_one (ps_set (i := 3) sc_find_chapter.nd rfl (.inl rfl) (pe_op op_add (pv 3) pe_int))))))
    (pss_one (ps_ret (pe_tup (pa_cons (pv 3) (pa_cons (pv 4) pa_nil))))))))), ?_⟩
    obtain ⟨hb, h1, h2, hq, hql, k⟩ := hw
    walk_at "hs"
    have h0 : 0 < ls.length := by
      cases ls with
      | nil => rw [pcount_nil] at hql; omega
      | cons x r => exact Nat.succ_pos _
    have e0 : ls[0]? = some ls[0] := List.getElem?_eq_getElem h0
    refine HS.ixZ hb (Int.le_refl 0) e0 ?_
    walk_at "hs"
    refine ⟨_, j, rfl, h1, h2, ?_⟩
    walk_at "hs"
    refine ⟨fun m σ H' => H' = H ∧ ∃ c : Nat, m = ls.length - c ∧ c < ls.length ∧ pcount (ls.take c) j < q ∧ σ = [some (.ref b), some (.int j), some (.int q), some (.int ((c + 1 : Nat) : Int)), some (.int (pcount (ls.take c) j)), some (.int (pcount (ls.take (c + 1)) j))], ⟨_, rfl, 0, rfl, h0, by rw [List.take_zero, pcount_nil]; omega, ?_⟩, ?_⟩
    · rw [pcount_take j e0, List.take_zero, pcount_nil, Int.zero_add]
      rfl
    · rintro m σ H' ⟨rfl, c, rfl, hc, hcq, rfl⟩
      walk_at "hs"
      refine HS.itd (fun hlt => ?_) (fun hge => ?_)
      · have hc1 : c + 1 < ls.length := by
          rcases Nat.lt_or_ge (c + 1) ls.length with h | h
          · exact h
          · rw [List.take_of_length_le h] at hlt; omega
        have e1 : ls[c + 1]? = some ls[c + 1] := List.getElem?_eq_getElem hc1
        refine ⟨fun σ' H'' => H'' = H' ∧ σ' = [some (.ref b), some (.int j), some (.int q), some (.int ((c + 1 + 1 : Nat) : Int)), some (.int (pcount (ls.take (c + 1)) j)), some (.int (pcount (ls.take (c + 1 + 1)) j))], fun σ' H'' ⟨e, e'⟩ => ⟨ls.length - (c + 1), by omega, e, c + 1, rfl, hc1, hlt, e'⟩, ?_⟩
        walk_at "hs"
        refine HS.ixZ hb (by omega) (show ls[(((c + 1 : Nat) : Int)).toNat]? = some ls[c + 1] from e1) ?_
        walk_at "hs"
        refine ⟨_, j, rfl, h1, h2, ?_⟩
        walk_at "hs"
        refine ⟨rfl, ?_⟩
        rw [pcount_take j e1]
        rfl
      · walk_at "hs"
        intro t ht
        walk_at "hs"
        exact k _ t c (.new ht) ht upd_same hc hcq (by omega)
def sp_lines_on (K : PySem.W.Frag) : Sp := fun vs H Q _ => ∃ (b : Addr) (ls : List Int) (j q : Int), vs = [.ref b, .int j, .int q] ∧ (SqL K H b (ls.map V.int) ∧ (∀ x ∈ ls, 1 ≤ x) ∧ ls.length ≤ 50000 ∧ 1 ≤ j ∧ j < 2 ^ 200 ∧ q < 2 ^ 200 ∧ 1 ≤ q ∧ q ≤ pcount ls j ∧ ∀ H' t (c : Nat) z, HS.Keep (fun _ => False) H H' → H t = none → ls[c]? = some z → pcount (ls.take c) j < q → q ≤ pcount (ls.take (c + 1)) j → H' t = some (.tup [.int ((c + 1 : Nat) : Int), .int ((q - pcount (ls.take c) j - 1) * j + 1), .int (min ((q - pcount (ls.take c) j - 1) * j + j) z)]) → Q (.ref t) H')
theorem ok_lines_on (T : Txt K mg A) : FnOk P w K mg base CX0 3 A.a_lines_on A.d_lines_on ["book", "size", "page"] (sp_lines_on K) := by
  have G_check_book : FnOk P w K mg base CX0 1 A.a_check_book A.d_check_book ["book"] (sp_check_book K) := ok_check_book T
  have G_check_size : FnOk P w K mg base CX0 1 A.a_check_size A.d_check_size ["size"] (sp_check_size K) := ok_check_size T
  have G_check_number : FnOk P w K mg base CX0 1 A.a_check_number A.d_check_number ["number", "least", "greatest"] (sp_check_number K) := ok_check_number T
  have G_count_pages : FnOk P w K mg base CX0 2 A.a_count_pages A.d_count_pages ["book", "size"] (sp_count_pages K) := ok_count_pages T
  have G_find_chapter : FnOk P w K mg base CX0 2 A.a_find_chapter A.d_find_chapter ["book", "size", "page"] (sp_find_chapter K) := ok_find_chapter T
  refine T.F_lines_on.ok sc_lines_on (fun vs H Q E h => ?_) (fun cdv A0 outer s H vs Q E hr h => ?_)
  · obtain ⟨b, ls, j, q, rfl, hw⟩ := h
    rfl
  · obtain ⟨b, ls, j, q, rfl, hw⟩ := h
    refine ⟨_, (pss_cons (ps_expr (pe_call G_check_book (hr.mono (by decide)) (by rfl) T.g_check_book T.F_check_book.kp T.b_check_book .nil pass0 (pa_cons (pv 0) pa_nil)))
    (pss_cons (ps_expr (pe_call G_check_size (hr.mono (by decide)) (by rfl) T.g_check_size T.F_check_size.kp T.b_check_size .nil pass0 (pa_cons (pv 1) pa_nil)))
    (pss_cons (ps_expr (pe_call G_check_number (hr.mono (by decide)) (by rfl) T.g_check_number T.F_check_number.kp T.b_check_number .nil pass0 (pa_cons (pv 2) (pa_cons pe_int (pa_cons (pe_call G_count_pages hr (by rfl) T.g_count_pages T.F_count_pages.kp T.b_count_pages .nil pass0 (pa_cons (pv 0) (pa_cons (pv 1) pa_nil))) pa_nil)))))
    (pss_cons (ps_asg (pe_call G_find_chapter hr (by rfl) T.g_find_chapter T.F_find_chapter.kp T.b_find_chapter .nil pass0 (pa_cons (pv 0) (pa_cons (pv 1) (pa_cons (pv 2) pa_nil)))) (HS.kgt K (pg_tup rfl (pgs_cons (pg_name (i := 3) sc_lines_on.nd rfl (.inl rfl)) (pgs_cons (pg_name (i := 4) sc_lines_on.nd rfl (.inl rfl)) pgs_nil)))))
    (pss_cons (ps_set (i := 5) sc_lines_on.nd rfl (.inl rfl) (pe_op op_add (pe_op op_mulW (pe_op op_sub (pe_op op_sub (pv 2) (pv 4)) pe_int) (pv 1)) pe_int))
    (pss_cons (ps_set (i := 6) sc_lines_on.nd rfl (.inl rfl) (pe_callB (call_min2 rfl) (by rfl) T.z_min (by decide +kernel) (pa_cons (pe_op op_sub (pe_op op_add (pv 5) (pv 1)) pe_int) (pa_cons (pe_ix (HS.ixl K) (pv 0) (pe_op op_sub (pv 3) pe_int) (fun _ _ => rfl)) pa_nil))))
    (pss_one (ps_ret (pe_tup (pa_cons (pv 3) (pa_cons (pv 5) (pa_cons (pv 6) pa_nil)))))))))))), ?_⟩
    obtain ⟨hb, hp, hl, h1, h2, hq2, hq, hql, k⟩ := hw
    walk_at "hs"
    refine ⟨b, ls, rfl, hb, hp, fun H1 K1 => ?_⟩
    have hb1 := K1.sq hb id
    walk_at "hs"
    refine ⟨j, rfl, h1, ?_⟩
    walk_at "hs"
    refine ⟨b, ls, j, rfl, hb1, hl, h1, h2, fun H2 K2 => ?_⟩
    have hb2 := K2.sq hb1 id
    walk_at "hs"
    refine ⟨q, 1, _, rfl, hq, hql, ?_⟩
    walk_at "hs"
    refine ⟨b, ls, j, q, rfl, hb2, h1, h2, hq, hql, fun H3 t c K3 ht et hc hcq hcq2 => ?_⟩
    walk_at "hs"
    have p0 := pcount_pos (take_all hp c) h1
    refine ⟨HS.mulW 200 200 (by omega) (by omega) (by omega) (by omega) (by decide) (by decide) (by decide), ?_⟩
    have hz : ls[c]? = some ls[c] := List.getElem?_eq_getElem hc
    walk_at "hs"
    refine HS.ixZ (K3.sq hb2 id) (by omega) (show ls[((((c + 1 : Nat) : Int)) - 1).toNat]? = some ls[c] by rw [show (((c + 1 : Nat) : Int) - 1).toNat = c by omega]; exact hz) ?_
    walk_at "hs"
    intro p1 hp1
    refine k _ p1 c ls[c] ((K1.trans (K2.trans K3)).put ((K1.trans (K2.trans K3)).free hp1 id)) ((K1.trans (K2.trans K3)).free hp1 id) hz hcq hcq2 ?_
    rw [upd_same]
    congr 4
    congr 1
    congr 1
    generalize (q - pcount (ls.take c) j - 1) * j = r
    simp only [Int.min_def]
    split <;> split <;> (try congr 1) <;> omega
def sp_counts (K : PySem.W.Frag) : SpG := fun vs H Q _ => ∃ (b : Addr) (ls : List Int) (m : Int), vs = [.ref b, .int m] ∧ (SqL K H b (ls.map V.int) ∧ (∀ x ∈ ls, 1 ≤ x) ∧ ls.length ≤ 50000 ∧ 0 ≤ m ∧ m ≤ 50000 ∧ ∀ H', HS.Keep (fun _ => False) H H' → Q ((List.range m.toNat).map fun (i : Nat) => V.int (pcount ls ((i : Int) + 1))) H')
theorem ok_counts (T : Txt K mg A) : GFn P w K mg base 3 A.a_counts A.d_counts ["book", "limit"] (sp_counts K) := by
  have G_check_book : FnOk P w K mg base CX0 1 A.a_check_book A.d_check_book ["book"] (sp_check_book K) := ok_check_book T
  have G_check_not_negative : FnOk P w K mg base CX0 1 A.a_check_not_negative A.d_check_not_negative ["number"] (sp_check_not_negative K) := ok_check_not_negative T
  have G_count_pages : FnOk P w K mg base CX0 2 A.a_count_pages A.d_count_pages ["book", "size"] (sp_count_pages K) := ok_count_pages T
  obtain ⟨oc, od, kV, doc, pm, an, cdv, ct, osl, hfd, lk, hcd⟩ := T.F_counts.ex
  rw [hfd] at lk ⊢
  refine gfn_of lk hcd sc_counts (fun vs H Q E h => ?_) (fun A0 outer s H vs Q E pn hr h => ?_)
  · obtain ⟨b, ls, m, rfl, hw⟩ := h
    rfl
  · obtain ⟨b, ls, m, rfl, hw⟩ := h
    refine ⟨_, (gss_cons (gs_ps (ps_expr (pe_call G_check_book (hr.mono (by decide)) (by rfl) T.g_check_book T.F_check_book.kp T.b_check_book .nil pass0 (pa_cons (pv 0) pa_nil))))
    (gss_cons (gs_ps (ps_expr (pe_call G_check_not_negative (hr.mono (by decide)) (by rfl) T.g_check_not_negative T.F_check_not_negative.kp T.b_check_not_negative .nil pass0 (pa_cons (pv 1) pa_nil))))
    (gss_cons (HS.gs_for owns_gcx rfl (pi_range2 (by rfl) T.z_range (pa_cons pe_int (pa_cons (pe_op op_add (pv 1) pe_int) pa_nil))) (pg_name (i := 2) sc_counts.nd rfl (.inl rfl))
      (gss_cons (gs_yield (pe_call G_count_pages hr (by rfl) T.g_count_pages T.F_count_pages.kp T.b_count_pages .nil pass0 (pa_cons (pv 0) (pa_cons (pv 2) pa_nil))))
    gss_nil))
    gss_nil))), ?_⟩
    obtain ⟨hb, hp, hl, h1, h2, k⟩ := hw
    walk_at "hs"
    refine ⟨b, ls, rfl, hb, hp, fun H1 K1 => ?_⟩
    have hb1 := K1.sq hb id
    walk_at "hs"
    refine ⟨m, rfl, h1, ?_⟩
    walk_at "hs"
    refine ⟨by omega, ?_⟩
    rw [show (m + 1 - 1).toNat = m.toNat by omega]
    refine HS.gfor_range (fun i ys σ H' => HS.Keep (fun _ => False) H H' ∧ ys = (List.range i).map (fun (i : Nat) => V.int (pcount ls ((i : Int) + 1))) ∧ ∃ x2, σ = [some (.ref b), some (.int m), x2]) ⟨K1, rfl, _, rfl⟩ ?_ ?_
    · rintro i ys σ H2 hi ⟨K2, rfl, x2, rfl⟩
      walk_at "hs"
      refine ⟨HS.sz (by simp; omega), ?_⟩
      walk_at "hs"
      refine ⟨b, ls, _, rfl, K2.sq hb id, hl, by omega, by omega, fun H3 K3 => ?_⟩
      refine ⟨K2.trans K3, ?_, _, rfl⟩
      rw [List.range_succ, List.map_append, Int.add_comm]
      rfl
    · rintro ys σ H2 ⟨K2, rfl, x2, rfl⟩
      exact k _ K2
def sp__law_great_right (K : PySem.W.Frag) : Sp := fun vs H Q _ => ∃ (s d b : Addr) (ls : List Int) (n : Nat), vs = [.ref s, .ref b] ∧ (Src H s d n ∧ SqL K H b (ls.map V.int) ∧ b ≠ s ∧ b ≠ d ∧ ls.length ≤ 1000 ∧ Book ls ∧ n < 2 ^ 38 ∧ ∀ H', HS.Keep (fun a => a = s ∨ a = d) H H' → Src H' s d (n + 8) → Q (.bl true) H')
theorem ok__law_great_right (T : Txt K mg A) : FnOk P w K mg base CX0 4 A.a__law_great_right A.d__law_great_right ["source", "lengths"] (sp__law_great_right K) := by
  have G__law_draw : FnOk P w K mg base CX0 1 A.a__law_draw A.d__law_draw ["source", "many"] (sp__law_draw K) := ok__law_draw T
  have G__law_wide : FnOk P w K mg base CX0 2 A.a__law_wide A.d__law_wide ["source", "lengths"] (sp__law_wide K) := ok__law_wide T
  have G_pages : FnOk P w K mg base CX0 3 A.a_pages A.d_pages ["book", "size"] (sp_pages K) := ok_pages T
  have G__law_sheets : FnOk P w K mg base CX0 1 A.a__law_sheets A.d__law_sheets ["long", "wide"] (sp__law_sheets K) := ok__law_sheets T
  refine T.F__law_great_right.ok sc__law_great_right (fun vs H Q E h => ?_) (fun cdv A0 outer s H vs Q E hr h => ?_)
  · obtain ⟨s, d, b, ls, n, rfl, hw⟩ := h
    rfl
  · obtain ⟨s, d, b, ls, n, rfl, hw⟩ := h
    refine ⟨_, (pss_cons (ps_par (i := 2) (j := 3) rfl sc__law_great_right.nd rfl rfl (by decide) rfl rfl (pa_cons (pe_call G__law_wide (hr.mono (by decide)) (by rfl) T.g__law_wide T.F__law_wide.kp T.b__law_wide .nil pass0 (pa_cons (pv 0) (pa_cons (pv 1) pa_nil))) (pa_cons (pe_op op_add pe_int (pe_call G__law_draw (hr.mono (by decide)) (by rfl) T.g__law_draw T.F__law_draw.kp T.b__law_draw .nil pass0 (pa_cons (pv 0) (pa_cons pe_int pa_nil)))) pa_nil)) (by rfl))
    (pss_cons (ps_par (i := 4) (j := 5) rfl sc__law_great_right.nd rfl rfl (by decide) rfl rfl (pa_cons (pe_call G_pages hr (by rfl) T.g_pages T.F_pages.kp T.b_pages .nil pass0 (pa_cons (pv 1) (pa_cons (pv 2) pa_nil))) (pa_cons (pe_callB (HS.ksum K rfl) (by rfl) T.z_sum (by decide +kernel) (pa_cons (pv 1) pa_nil)) pa_nil)) (by rfl))
    (pss_cons (ps_set (i := 6) sc__law_great_right.nd rfl (.inl rfl) (pe_callB (HS.klen K) (by rfl) T.z_len PySem.boot_len (pa_cons (pv 1) pa_nil)))
    (pss_cons (ps_if (pt_not (pt_chain op_le op_le (pe_callB (call_max2 rfl) (by rfl) T.z_max (by decide +kernel) (pa_cons (pv 6) (pa_cons (pe_call G__law_sheets (hr.mono (by decide)) (by rfl) T.g__law_sheets T.F__law_sheets.kp T.b__law_sheets .nil pass0 (pa_cons (pv 5) (pa_cons (pv 2) pa_nil))) pa_nil))) (pv 4) (pe_op op_add (pv 6) (pe_op op_fdivW (pe_op op_sub (pv 5) (pv 6)) (pv 2)))))
      (pss_one (ps_ret pe_bl))
      pss_nil)
    (pss_cons (ps_set (i := 7) sc__law_great_right.nd rfl (.inl rfl) (pe_callB (call_min2 rfl) (by rfl) T.z_min (by decide +kernel) (pa_cons (HS.pe_fold (999999999999999999999999999999) (pe_op op_sub (pe_op op_pow pe_int pe_int) pe_int) (by intro σ H Q q; walk_at "fold")) (pa_cons (pe_op op_mulW (pv 2) (pv 3)) pa_nil))))
    (pss_cons (ps_set (i := 8) sc__law_great_right.nd rfl (.inl rfl) (pe_call G_pages hr (by rfl) T.g_pages T.F_pages.kp T.b_pages .nil pass0 (pa_cons (pv 1) (pa_cons (pv 7) pa_nil))))
    (Evl.pss_cut (ps_if (PW.pt (pw_or (pt_cmpR op_gt (pv 8) (pv 4) (nomark _)) (pw_or1 (PW.pt (pw_and (pt_cmpR op_eq (pv 7) (pe_op op_mulW (pv 2) (pv 3)) (nomark _)) (pw_and1 (pt_cmpR op_gt (pv 4) (pe_op op_mulW (pv 3) (pv 8)) (nomark _))))))))
      (pss_one (ps_ret pe_bl))
      pss_nil)
    (pss_cons (ps_set (i := 9) sc__law_great_right.nd rfl (.inl rfl) (pe_call G__law_draw (hr.mono (by decide)) (by rfl) T.g__law_draw T.F__law_draw.kp T.b__law_draw .nil pass0 (pa_cons (pv 0) (pa_cons (pe_op op_add (pe_callB (HS.klen K) (by rfl) T.z_len PySem.boot_len (pa_cons (pv 1) pa_nil)) pe_int) pa_nil))))
    (pss_cons (ps_set (i := 10) sc__law_great_right.nd rfl (.inl rfl) (pe_op op_add (pe_call G_pages hr (by rfl) T.g_pages T.F_pages.kp T.b_pages .nil pass0 (pa_cons (pe_slice (HS.sll K) (pv 1) po_none (po_some (pv 9))) (pa_cons (pv 2) pa_nil))) (pe_call G_pages hr (by rfl) T.g_pages T.F_pages.kp T.b_pages .nil pass0 (pa_cons (pe_slice (HS.sll K) (pv 1) (po_some (pv 9)) po_none) (pa_cons (pv 2) pa_nil)))))
    (pss_cons (ps_if (pt_cmpR (HS.kne K (hu64 hr)) (pe_lst (pa_cons (pv 10) (pa_cons (pe_call G_pages hr (by rfl) T.g_pages T.F_pages.kp T.b_pages .nil pass0 (pa_cons (HS.krev K (pe_revL (pv 1))) (pa_cons (pv 2) pa_nil))) pa_nil))) (pe_lst (pa_cons (pv 4) (pa_cons (pv 4) pa_nil))) (nomark _))
      (pss_one (ps_ret pe_bl))
      pss_nil)
    (pss_cons (ps_if (PW.pt (pw_or (pt_cmpR op_lt (pv 6) pe_int (nomark _)) (pw_or1 (pt_cmpR op_ge (pe_op op_add (pe_ix (HS.ixl K) (pv 1) pe_int (fun _ _ => rfl)) (pe_ix (HS.ixl K) (pv 1) pe_int (fun _ _ => rfl))) (HS.pe_fold (1000000000000000000000000000000) (pe_op op_pow pe_int pe_int) (by intro σ H Q q; walk_at "fold")) (nomark _)))))
      (pss_one (ps_ret pe_bl))
      pss_nil)
    (pss_cons (ps_set (i := 11) sc__law_great_right.nd rfl (.inl rfl) (pe_op op_cat (pe_lst (pa_cons (pe_op op_add (pe_ix (HS.ixl K) (pv 1) pe_int (fun _ _ => rfl)) (pe_ix (HS.ixl K) (pv 1) pe_int (fun _ _ => rfl))) pa_nil)) (pe_slice (HS.sll K) (pv 1) (po_some pe_int) po_none)))
    (pss_one (ps_ret (pe_chain op_le op_le (pe_op op_sub (pv 4) pe_int) (pe_call G_pages hr (by rfl) T.g_pages T.F_pages.kp T.b_pages .nil pass0 (pa_cons (pv 11) (pa_cons (pv 2) pa_nil))) (pv 4)))))))))))))))), ?_⟩
    obtain ⟨S0, hb, bs, bd, hbl, hB, hn, k⟩ := hw
    have hp : ∀ x ∈ ls, 1 ≤ x := fun x hx => (hB x hx).1
    walk_at "hs"
    refine ⟨s, d, b, ls, n, rfl, S0, hb, bs, bd, hbl, hB, by omega, fun H1 wd K1 S1 w0 w1 => ?_⟩
    have hb1 := K1.sq hb (by walk_at "ns")
    walk_at "hs"
    refine ⟨s, d, 9, _, rfl, S1, by decide, by decide, by omega, fun H2 m0 K2 S2 m0' m1' => ?_⟩
    have hb2 := K2.sq hb1 (by walk_at "ns")
    walk_at "hs"
    refine ⟨b, ls, wd, rfl, hb2, hp, by omega, w0, by omega, fun H3 K3 => ?_⟩
    have hb3 := K3.sq hb2 id
    have sb := sum_book hB
    walk_at "hs"
    rw [List.length_map]
    refine ⟨_, wd, rfl, w0, by omega, ?_⟩
    have g1 := pcount_ceil ls w0
    have g2 := pcount_len hp w0
    have g3 := pcount_most ls w0
    walk_at "hs"
    refine HS.it1 (by split <;> omega) ?_
    walk_at "hs"
    refine ⟨HS.divW 200 w0 (by omega) (by decide) (by decide), ?_⟩
    walk_at "hs"
    refine HS.in0 g3 ?_
    walk_at "hs"
    have m1 : 0 ≤ wd * (1 + m0) := Int.mul_nonneg (by omega) (by omega)
    have m2 : wd ≤ wd * (1 + m0) := by have := Int.mul_le_mul_of_nonneg_left (show (1 : Int) ≤ 1 + m0 by omega) (show 0 ≤ wd by omega); omega
    have m3 : CMulW wd (1 + m0) := HS.mulW 200 200 (by omega) (by omega) (by omega) (by omega) (by decide) (by decide) (by decide)
    refine ⟨m3, ?_⟩
    walk_at "hs"
    generalize hg : (if wd * (1 + m0) < 999999999999999999999999999999 then wd * (1 + m0) else 999999999999999999999999999999) = gr
    have hgr : wd ≤ gr ∧ gr < 10 ^ 30 := by
      constructor
      · rw [← hg]; split <;> omega
      · rw [← hg]; split <;> omega
    refine ⟨b, ls, gr, rfl, hb3, hp, by omega, by omega, by omega, fun H4 K4 => ?_⟩
    have hb4 := K4.sq hb3 id
    have a1 := pcount_anti hp w0 hgr.1
    have a2 := pcount_pos hp (show 1 ≤ gr by omega)
    have a3 := pcount_sum hp sb.1 (show 1 ≤ gr by omega)
    have a4 := pcount_sum hp sb.1 w0
    have K04 : HS.Keep (fun a => a = s ∨ a = d) H H4 := K1.trans (K2.trans (K3.any.trans K4.any))
    have S4 : Src H4 s d (n + 7) := (S2.same K3).same K4
    walk_at "hs"
    refine HS.cut (fun σ H' => H' = H4 ∧ σ = [some (.ref s), some (.ref b), some (.int wd), some (.int (1 + m0)), some (.int (pcount ls wd)), some (.int ls.sum), some (.int ls.length), some (.int gr), some (.int (pcount ls gr)), none, none, none]) ?_ ?_
    · walk_at "hs"
      refine HS.it0 (by omega) ?_
      walk_at "hs"
      refine HS.itd (fun e => ?_) (fun e => ?_)
      · walk_at "hs"
        refine ⟨HS.mulW 200 200 (by omega) (by omega) (by omega) (by omega) (by decide) (by decide) (by decide), ?_⟩
        walk_at "hs"
        have := pcount_mult (ls := ls) w0 (show 1 ≤ 1 + m0 by omega)
        rw [← e] at this
        refine HS.it0 (by omega) ?_
        walk_at "hs"
        exact ⟨rfl, rfl⟩
      · walk_at "hs"
        exact ⟨rfl, rfl⟩
    · rintro σ H5 ⟨rfl, rfl⟩
      walk_at "hs"
      rw [List.length_map]
      refine ⟨s, d, _, _, rfl, S4, by omega, by omega, by omega, fun H6 ct K6 S6 ct0 ct1 => ?_⟩
      have hb6 := K6.sq hb4 (by walk_at "ns")
      walk_at "hs"
      intro p1 hp1
      rw [HS.cut_toI ls ct0]
      walk_at "hs"
      refine ⟨p1, _, wd, rfl, HS.sq upd_same, take_all hp _, by rw [List.length_take]; omega, w0, by omega, fun H7 K7 => ?_⟩
      have K67 : HS.Keep (fun _ => False) H6 H7 := (HS.Keep.new hp1).trans K7
      have hb7 := K67.sq hb6 id
      walk_at "hs"
      intro p2 hp2
      rw [HS.cut_fromI ls ct0]
      walk_at "hs"
      refine ⟨p2, _, wd, rfl, HS.sq upd_same, fun x hx => hp x (List.mem_of_mem_drop hx), by rw [List.length_drop]; omega, w0, by omega, fun H8 K8 => ?_⟩
      have K68 : HS.Keep (fun _ => False) H6 H8 := K67.trans ((HS.Keep.new hp2).trans K8)
      have hb8 := K68.sq hb6 id
      walk_at "hs"
      rw [pcount_cut]
      refine ⟨b, _, rfl, hb8, fun p3 hp3 => ?_⟩
      rw [← List.map_reverse]
      walk_at "hs"
      refine ⟨p3, _, wd, rfl, HS.sq upd_same, fun x hx => hp x (List.mem_reverse.mp hx), by rw [List.length_reverse]; omega, w0, by omega, fun H9 K9 => ?_⟩
      have K69 : HS.Keep (fun _ => False) H6 H9 := K68.trans ((HS.Keep.new hp3).trans K9)
      have hb9 := K69.sq hb6 id
      walk_at "hs"
      intro p4 hp4
      walk_at "hs"
      intro p5 hp5
      rw [pcount_reverse] at hp5 ⊢
      have K610 := K69.trans ((HS.Keep.new (S := fun _ => False) (o := .lst [.int (pcount ls wd), .int (pcount ls wd)]) hp4).trans (HS.Keep.new (o := .lst [.int (pcount ls wd), .int (pcount ls wd)]) hp5))
      refine HS.neL (xs := [pcount ls wd, pcount ls wd]) (ys := [pcount ls wd, pcount ls wd]) (HS.sq (by walk_at "hp")) (HS.sq upd_same) ?_
      have hb10 := K610.sq hb6 id
      have S10 := S6.same K610
      have KK := K04.trans (K6.trans K610.any)
      generalize upd (upd H9 p4 (.lst [.int (pcount ls wd), .int (pcount ls wd)])) p5 (.lst [.int (pcount ls wd), .int (pcount ls wd)]) = H10 at hb10 S10 KK ⊢
      walk_at "hs"
      refine HS.in0 rfl ?_
      walk_at "hs"
      refine HS.itd (fun hl2 => ?_) (fun hl2 => ?_)
      · walk_at "hs"
        exact k _ KK S10
      · match ls, hl2 with
        | [], hl2 => exact absurd (show ((([] : List Int).length : Nat) : Int) < 2 by decide) hl2
        | [_], hl2 => exact absurd (show ((([0] : List Int).length : Nat) : Int) < 2 by decide) hl2
        | x :: y :: r, _ =>
          walk_at "hs"
          refine HS.ixZ hb10 (Int.le_refl 0) (show (x :: y :: r)[(0 : Int).toNat]? = some x from rfl) ?_
          walk_at "hs"
          refine HS.ixZ hb10 (by decide) (show (x :: y :: r)[(1 : Int).toNat]? = some y from rfl) ?_
          walk_at "hs"
          refine HS.itd (fun hl3 => ?_) (fun hl3 => ?_)
          · walk_at "hs"
            exact k _ KK S10
          · walk_at "hs"
            refine HS.ixZ hb10 (Int.le_refl 0) (show (x :: y :: r)[(0 : Int).toNat]? = some x from rfl) ?_
            walk_at "hs"
            refine HS.ixZ hb10 (by decide) (show (x :: y :: r)[(1 : Int).toNat]? = some y from rfl) ?_
            walk_at "hs"
            intro p6 hp6
            have hb11 : SqL K (upd H10 p6 (.lst [.int (x + y)])) b ((x :: y :: r).map V.int) := HS.Keep.sq (S := fun _ => False) (HS.Keep.new hp6) hb10 id
            walk_at "hs"
            intro p7 hp7
            rw [HS.cut_fromI (x :: y :: r) (by decide)]
            have hne : p6 ≠ p7 := ne_of_none upd_same hp7
            walk_at "hs"
            refine ⟨HS.szl (by rw [List.length_map, List.length_drop]; simp only [List.length_cons, List.length_nil] at hbl ⊢; omega), fun p8 hp8 => ?_⟩
            have K118 : HS.Keep (fun _ => False) H10 (upd (upd (upd H10 p6 (.lst [.int (x + y)])) p7 (.lst ((List.drop (2 : Int).toNat (x :: y :: r)).map V.int))) p8 (.lst ([.int (x + y)] ++ (List.drop (2 : Int).toNat (x :: y :: r)).map V.int))) :=
              (HS.Keep.new hp6).trans ((HS.Keep.new hp7).trans (HS.Keep.new hp8))
            walk_at "hs"
            have q1 := hp x List.mem_cons_self
            have q2 := hp y (List.mem_cons_of_mem _ List.mem_cons_self)
            refine ⟨p8, (x + y) :: r, wd, rfl, HS.sq upd_same, ?_, by simp only [List.length_cons] at hbl ⊢; omega, w0, by omega, fun H12 K12 => ?_⟩
            · intro z hz
              rcases List.mem_cons.mp hz with hz | hz
              · omega
              · exact hp z (List.mem_cons_of_mem _ (List.mem_cons_of_mem _ hz))
            have cj := ceil_join (x := x) (y := y) w0
            have e1 : pcount (x :: y :: r) wd = (x + wd - 1) / wd + ((y + wd - 1) / wd + pcount r wd) := by rw [pcount_cons, pcount_cons]
            have e2 := pcount_cons (x + y) r wd
            walk_at "hs"
            refine HS.it1 (by omega) ?_
            walk_at "hs"
            rw [decide_eq_true (by omega)]
            exact k _ (KK.trans (K118.any.trans K12.any)) ((S10.same K118).same K12)
def sp__law_small_right (K : PySem.W.Frag) : Sp := fun vs H Q _ => ∃ (s d b : Addr) (ls : List Int) (n : Nat), vs = [.ref s, .ref b] ∧ (Src H s d n ∧ H b = some (.lst (ls.map V.int)) ∧ b ≠ s ∧ b ≠ d ∧ ls.length ≤ 6 ∧ (∀ x ∈ ls, 1 ≤ x ∧ x ≤ 60) ∧ n < 2 ^ 38 ∧ ∀ H', HS.Keep (fun a => a = s ∨ a = d) H H' → Src H' s d (n + 1) → Q (.bl true) H')
theorem ok__law_small_right (T : Txt K mg A) : FnOk P w K mg base CX0 7 A.a__law_small_right A.d__law_small_right ["source", "few"] (sp__law_small_right K) := by
  have G_counts : GFn P w K mg base 3 A.a_counts A.d_counts ["book", "limit"] (sp_counts K) := ok_counts T
  have G__law_draw : FnOk P w K mg base CX0 1 A.a__law_draw A.d__law_draw ["source", "many"] (sp__law_draw K) := ok__law_draw T
  have G_pages : FnOk P w K mg base CX0 3 A.a_pages A.d_pages ["book", "size"] (sp_pages K) := ok_pages T
  have G_lines_on : FnOk P w K mg base CX0 3 A.a_lines_on A.d_lines_on ["book", "size", "page"] (sp_lines_on K) := ok_lines_on T
  have G_page_of : FnOk P w K mg base CX0 3 A.a_page_of A.d_page_of ["book", "size", "chapter", "line"] (sp_page_of K) := ok_page_of T
  refine T.F__law_small_right.ok sc__law_small_right (fun vs H Q E h => ?_) (fun cdv A0 outer s H vs Q E hr h => ?_)
  · obtain ⟨s, d, b, ls, n, rfl, hw⟩ := h
    rfl
  · obtain ⟨s, d, b, ls, n, rfl, hw⟩ := h
    refine ⟨_, (pss_cons (ps_set (i := 2) sc__law_small_right.nd rfl (.inr rfl) (pe_callB (HS.kmax K rfl) (by rfl) T.z_max (by decide +kernel) (pa_cons (pe_op op_cat (pv 1) (pe_lst (pa_cons pe_int pa_nil))) pa_nil)))
    (pss_cons (ps_set (i := 5) sc__law_small_right.nd rfl (.inr rfl) (pe_lc (own := [("number", 3)]) (g := gName 3) (tt := tYes) rfl sc__law_small_right.nd (pi_range1 (by rfl) T.z_range (pa_cons (pe_op op_add (pv 2) pe_int) pa_nil)) (blkOk_by (own := [("number", 3)]) (N := N__law_small_right) (sc := defScope s__law_small_right) (by decide +kernel)) (fun _ _ _ _ _ => pg_name (i := 3) sc__law_small_right.nd rfl (by first | exact .inl rfl | exact .inr rfl)) (fun _ _ _ _ _ => pts_nil) (fun _ _ _ _ _ => (pe_callB (HS.klen K) (by rfl) T.z_len PySem.boot_len (pa_cons (HS.pe_lcIn (own := [("long", 4)]) (g := gName 4) rfl sc__law_small_right.nd (HS.kil K (pi_list (pv 1))) (defScope s__law_small_right) rfl (blkOk_by (own := [("long", 4)]) (N := N__law_small_right) (by decide +kernel)) (fun _ _ _ _ _ => pg_name (i := 4) sc__law_small_right.nd rfl (by first | exact .inl rfl | exact .inr rfl)) (fun _ _ _ _ _ => (pts_one (pt_cmpR op_gt (pv 4) (pv 3) (nomark _)))) (fun _ _ _ _ _ => (pv 4))) pa_nil)))))
    (pss_cons (ps_setLc (i := 7) (own := [("wide", 6)]) (g := gName 6) (tt := tYes) rfl sc__law_small_right.nd rfl rfl (sw_true rfl rfl rfl (by decide +kernel)) (pi_range2 (by rfl) T.z_range (pa_cons pe_int (pa_cons (pe_op op_add (pv 2) pe_int) pa_nil))) (blkOk_by (own := [("wide", 6)]) (N := N__law_small_right) (sc := defScope s__law_small_right) (by decide +kernel)) (fun _ _ _ _ _ => pg_name (i := 6) sc__law_small_right.nd rfl (by first | exact .inl rfl | exact .inr rfl)) (fun _ _ _ _ _ => pts_nil) (fun _ _ _ _ _ => (pe_callB (HS.ksum K rfl) (by rfl) T.z_sum (by decide +kernel) (pa_cons (HS.pe_lcIn (own := [("spot", 14)]) (g := gName 14) (tt := tYes) rfl sc__law_small_right.nd (pi_range3 (by rfl) T.z_range (pa_cons pe_int (pa_cons (pe_op op_add (pv 2) pe_int) (pa_cons (pv 6) pa_nil)))) (defScope s__law_small_right) rfl (blkOk_by (own := [("spot", 14)]) (N := N__law_small_right) (by decide +kernel)) (fun _ _ _ _ _ => pg_name (i := 14) sc__law_small_right.nd rfl (by first | exact .inl rfl | exact .inr rfl)) (fun _ _ _ _ _ => pts_nil) (fun _ _ _ _ _ => (pe_ix (HS.ixl K) (pv 5) (pv 14) (fun _ _ => rfl)))) pa_nil))))
    (pss_cons (ps_if (pt_cmpR (HS.kne K (hu64 hr)) (pe_listG (pgen_call G_counts (hr.mono (by decide)) (by rfl) T.g_counts T.F_counts.kp T.b_counts .nil (pa_cons (pv 1) (pa_cons (pv 2) pa_nil))) passL (fun _ _ _ h => h.elim) (hr.mono (by decide)) (by rfl) T.z_list (by decide +kernel)) (pv 7) (nomark _))
      (pss_one (ps_ret pe_bl))
      pss_nil)
    (pss_cons (ps_par (i := 6) (j := 8) rfl sc__law_small_right.nd rfl rfl (by decide) rfl rfl (pa_cons (pe_op op_add pe_int (pe_call G__law_draw (hr.mono (by decide)) (by rfl) T.g__law_draw T.F__law_draw.kp T.b__law_draw .nil pass0 (pa_cons (pv 0) (pa_cons (pv 2) pa_nil)))) (pa_cons (pe_lst pa_nil) pa_nil)) (by rfl))
    (pss_cons (ps_for PassesOwn.never rfl (pi_range1 (by rfl) T.z_range (pa_cons (pe_call G_pages (hr.mono (by decide)) (by rfl) T.g_pages T.F_pages.kp T.b_pages .nil pass0 (pa_cons (pv 1) (pa_cons (pv 6) pa_nil))) pa_nil)) (pg_name (i := 3) sc__law_small_right.nd rfl (.inl rfl))
      (pss_cons (ps_asg (pe_call G_lines_on (hr.mono (by decide)) (by rfl) T.g_lines_on T.F_lines_on.kp T.b_lines_on .nil pass0 (pa_cons (pv 1) (pa_cons (pv 6) (pa_cons (pe_op op_add (pv 3) pe_int) pa_nil)))) (HS.kgt K (pg_tup rfl (pgs_cons (pg_name (i := 9) sc__law_small_right.nd rfl (.inr rfl)) (pgs_cons (pg_name (i := 10) sc__law_small_right.nd rfl (.inl rfl)) (pgs_cons (pg_name (i := 11) sc__law_small_right.nd rfl (.inl rfl)) pgs_nil))))))
    (pss_cons (ps_if (PW.pt (pw_or (pt_cmpR op_gt (pe_op op_add (pe_op op_sub (pv 11) (pv 10)) pe_int) (pv 6) (nomark _)) (pw_or1 (pt_cmpR op_ne (pe_call G_page_of (hr.mono (by decide)) (by rfl) T.g_page_of T.F_page_of.kp T.b_page_of .nil pass0 (pa_cons (pv 1) (pa_cons (pv 6) (pa_cons (pv 9) (pa_cons (pv 10) pa_nil))))) (pe_op op_add (pv 3) pe_int) (nomark _)))))
      (pss_one (ps_ret pe_bl))
      pss_nil)
    (pss_one (ps_expr (HS.kbm K (pe_bm PySem.F.plainAttrs_list PySem.F.slot_list_extend PySem.F.type_list_extend mt_extend (pv 8) (pa_cons (pe_lc (own := [("spot", 14)]) (g := gName 14) (tt := tYes) rfl sc__law_small_right.nd (pi_range2 (by rfl) T.z_range (pa_cons (pv 10) (pa_cons (pe_op op_add (pv 11) pe_int) pa_nil))) (blkOk_by (own := [("spot", 14)]) (N := N__law_small_right) (sc := defScope s__law_small_right) (by decide +kernel)) (fun _ _ _ _ _ => pg_name (i := 14) sc__law_small_right.nd rfl (by first | exact .inl rfl | exact .inr rfl)) (fun _ _ _ _ _ => pts_nil) (fun _ _ _ _ _ => (pe_tup (pa_cons (pv 9) (pa_cons (pv 14) pa_nil))))) pa_nil))))))))
    (pss_cons (ps_set (i := 12) sc__law_small_right.nd rfl (.inl rfl) (pe_lst pa_nil))
    (pss_cons (ps_for PassesOwn.never rfl (HS.kien K (pi_enum (by rfl) T.z_enumerate (pa_cons (pv 1) pa_nil))) (HS.kgt K (pg_tup rfl (pgs_cons (pg_name (i := 13) sc__law_small_right.nd rfl (.inr rfl)) (pgs_cons (pg_name (i := 4) sc__law_small_right.nd rfl (.inl rfl)) pgs_nil))))
      (pss_one (ps_expr (HS.kbm K (pe_bm PySem.F.plainAttrs_list PySem.F.slot_list_extend PySem.F.type_list_extend mt_extend (pv 12) (pa_cons (pe_lc (own := [("spot", 14)]) (g := gName 14) (tt := tYes) rfl sc__law_small_right.nd (pi_range2 (by rfl) T.z_range (pa_cons pe_int (pa_cons (pe_op op_add (pv 4) pe_int) pa_nil))) (blkOk_by (own := [("spot", 14)]) (N := N__law_small_right) (sc := defScope s__law_small_right) (by decide +kernel)) (fun _ _ _ _ _ => pg_name (i := 14) sc__law_small_right.nd rfl (by first | exact .inl rfl | exact .inr rfl)) (fun _ _ _ _ _ => pts_nil) (fun _ _ _ _ _ => (pe_tup (pa_cons (pe_op op_add (pv 13) pe_int) (pa_cons (pv 14) pa_nil))))) pa_nil))))))
    (pss_one (ps_ret (pe_cmpR (HS.keq K (hu64 hr)) (pv 8) (pv 12) (nomark _)))))))))))), ?_⟩
    obtain ⟨S0, hb, bs, bd, hbl, hB, hn, k⟩ := hw
    have hp : ∀ x ∈ ls, 1 ≤ x := fun x hx => (hB x hx).1
    walk_at "hs"
    intro p1 hp1
    have b1 : b ≠ p1 := ne_of_none hb hp1
    walk_at "hs"
    intro p2 hp2
    have K1 : HS.Keep (fun _ => False) H (upd (upd H p1 (.lst [.int 1])) p2 (.lst (ls.map V.int ++ [.int 1]))) := (HS.Keep.new hp1).trans (HS.Keep.new hp2)
    refine ⟨p2, ls ++ [1], rfl, HS.sq (by rw [upd_same, List.map_append]; rfl), by walk_at "len", fun m hm hmx => ?_⟩
    have hm1 : 1 ≤ m := hmx 1 (List.mem_append_right _ List.mem_cons_self)
    have hm2 : ∀ x ∈ ls, x ≤ m := fun x hx => hmx x (List.mem_append_left _ hx)
    have hm3 : m ≤ 60 := by
      rcases List.mem_append.mp hm with hm | hm
      · exact (hB m hm).2
      · rw [List.mem_singleton] at hm; omega
    generalize upd (upd H p1 (.lst [.int 1])) p2 (.lst (ls.map V.int ++ [.int 1])) = H1 at K1 ⊢
    have hb1 := K1 b _ hb id
    have S1 := S0.same K1
    walk_at "hs"
    refine ⟨by omega, by omega, fun D hD => ?_⟩
    have bD : b ≠ D := ne_of_none hb1 hD
    rw [show (m + 1).toNat = m.toNat + 1 by omega]
    refine lc_range (lo := 0) (n := m.toNat + 1) (fun i H' => HS.Keep (fun _ => False) H1 H' ∧ H' D = some (.lst (((List.range i).map fun (i : Nat) => cnt ls i).map V.int))) ?_ ?_ ?_
    · exact ⟨HS.Keep.new hD, by rw [upd_same]; rfl⟩
    · rintro i H2 hi ⟨K2, hD2⟩
      walk_at "hs"
      have hb2 := K2 b _ hb1 id
      refine ⟨⟨_, HS.sq hb2⟩, fun D2 hD2' => ?_⟩
      have DD : D ≠ D2 := ne_of_none hD2 hD2'
      refine lc_list (xs := ls.map V.int) (fun j H' => HS.Keep (fun _ => False) H2 H' ∧ H' D2 = some (.lst (((ls.take j).filter fun x => decide (x > (i : Int))).map V.int))) ?_ ?_ ?_ ?_
      · exact ⟨HS.Keep.new hD2', upd_same⟩
      · rintro j H3 _ ⟨K3, _⟩
        exact HS.sq (K3 b _ hb2 id)
      · rintro j x H3 hj ⟨K3, e3⟩
        obtain ⟨z, rfl, hz, hjl⟩ := HS.get_int hj
        walk_at "hs"
        rw [show (0 : Int) + (i : Nat) = (i : Nat) by omega]
        have ht : ls.take (j + 1) = ls.take j ++ [z] := by rw [List.take_add_one, hz]; rfl
        have hfl : ((ls.take j).filter fun x => decide (x > (i : Int))).length ≤ 6 := Nat.le_trans (List.length_filter_le _ _) (by rw [List.length_take]; omega)
        refine HS.itd (fun hc => ?_) (fun hc => ?_)
        · walk_at "hs"
          refine ⟨_, e3, HS.sz (by rw [List.length_map]; omega), K3.put hD2', ?_⟩
          rw [upd_same, ht, List.filter_append, List.map_append, List.filter_cons, if_pos (decide_eq_true hc)]; rfl
        · refine ⟨K3, ?_⟩
          rw [e3, ht, List.filter_append, List.filter_cons, if_neg (by rw [decide_eq_true_eq]; exact hc), List.filter_nil, List.append_nil]
      · rintro H3 ⟨K3, e3⟩
        rw [List.length_map, List.take_length] at e3
        walk_at "hs"
        rw [List.length_map]
        refine ⟨_, K3 D _ hD2 id, HS.sz (by simp only [List.length_map, List.length_range]; omega), (K2.trans K3).put hD, ?_⟩
        rw [upd_same, List.range_succ, List.map_append, List.map_append]
        rfl
    · rintro H2 ⟨K2, hD2⟩
      walk_at "hs"
      refine ⟨by omega, fun D2 hDD => ?_⟩
      rw [show (m + 1 - 1).toNat = m.toNat by omega]
      have DD : D ≠ D2 := ne_of_none hD2 hDD
      refine lc_range (lo := 1) (n := m.toNat) (fun i H' => HS.Keep (fun _ => False) H2 H' ∧ H' D2 = some (.lst (((List.range i).map fun (i : Nat) => pcount ls ((i : Int) + 1)).map V.int))) ?_ ?_ ?_
      · exact ⟨HS.Keep.new hDD, by rw [upd_same]; rfl⟩
      · rintro i H3 hi ⟨K3, e3⟩
        walk_at "hs"
        have w0 : 1 ≤ 1 + (i : Int) := by omega
        refine ⟨_, _, _, _, rfl, HS.RgC.up (j := m + 1) (c := 1 + (i : Int)) w0 (by omega) (by omega) (by omega), fun D3 hD3 => ?_⟩
        have DE : D2 ≠ D3 := ne_of_none e3 hD3
        refine lc_it walk_rangeC (fun j H' => HS.Keep (fun _ => False) H3 H' ∧ H' D3 = some (.lst (((List.range j).map fun (t : Nat) => cnt ls ((t : Int) * (1 + (i : Int)))).map V.int))) ?_ (fun _ _ _ _ => trivial) ?_ ?_
        · exact ⟨HS.Keep.new hD3, by rw [upd_same]; rfl⟩
        · rintro j x H4 H5 hj ⟨K4, e4⟩ ⟨rfl, rfl⟩
          walk_at "hs"
          have hs1 : (j : Int) * (1 + (i : Int)) < m + 1 := (step_one (x := m + 1) w0 j).mpr (by omega)
          have hs0 : 0 ≤ (j : Int) * (1 + (i : Int)) := Int.mul_nonneg (by omega) (by omega)
          have hs2 : ((List.range (m.toNat + 1)).map fun (i : Nat) => cnt ls i)[(0 + (j : Int) * (1 + (i : Int))).toNat]? = some (cnt ls ((j : Int) * (1 + (i : Int)))) := by
            rw [List.getElem?_map, List.getElem?_range (by omega)]
            show some (cnt ls (((0 + (j : Int) * (1 + (i : Int))).toNat : Nat) : Int)) = _
            rw [show (((0 + (j : Int) * (1 + (i : Int))).toNat : Nat) : Int) = (j : Int) * (1 + (i : Int)) by omega]
          refine HS.ixZ ((K3.trans K4).sq (HS.sq hD2) id) (by omega) hs2 ?_
          have hjm : j ≤ 100 := by
            have : (j : Int) * 1 ≤ (j : Int) * (1 + (i : Int)) := Int.mul_le_mul_of_nonneg_left w0 (by omega)
            omega
          refine ⟨_, e4, HS.sz (by simp only [List.length_map, List.length_range]; omega), K4.put hD3, ?_⟩
          rw [upd_same, List.range_succ, List.map_append, List.map_append]
          rfl
        · rintro H4 ⟨K4, e4⟩
          walk_at "hs"
          rw [show ((List.range ((m + 1 + (1 + (i : Int)) - 1) / (1 + (i : Int))).toNat).map fun (t : Nat) => cnt ls ((t : Int) * (1 + (i : Int)))).sum = pcount ls (1 + (i : Int)) from steps_all w0 fun x hx => ⟨by have := hp x hx; omega, hm2 x hx⟩]
          refine ⟨_, K4 D2 _ e3 id, HS.sz (by simp only [List.length_map, List.length_range]; omega), (K3.trans K4).put hDD, ?_⟩
          rw [upd_same, List.range_succ, List.map_append, List.map_append, show 1 + (i : Int) = (i : Int) + 1 by omega]
          rfl
      · rintro H3 ⟨K3, e3⟩
        walk_at "hs"
        have hb3 := (K2.trans K3) b _ hb1 id
        refine ⟨b, ls, m, rfl, HS.sq hb3, hp, by omega, by omega, by omega, fun H4 K4 => ?_⟩
        intro p3 hp3
        walk_at "hs"
        have e4 := K4 D2 _ e3 id
        have KB : HS.Keep (fun _ => False) H1 (upd H4 p3 (.lst ((List.range m.toNat).map fun (i : Nat) => V.int (pcount ls ((i : Int) + 1))))) := K2.trans (K3.trans (K4.trans (HS.Keep.new hp3)))
        refine HS.neL (xs := (List.range m.toNat).map fun (i : Nat) => pcount ls ((i : Int) + 1)) (ys := (List.range m.toNat).map fun (i : Nat) => pcount ls ((i : Int) + 1)) (HS.sq (by rw [upd_same, List.map_map]; rfl)) (HS.Keep.sq (S := fun _ => False) (HS.Keep.new hp3) (HS.sq e4) id) ?_
        generalize upd H4 p3 (.lst ((List.range m.toNat).map fun (i : Nat) => V.int (pcount ls ((i : Int) + 1)))) = H5 at KB ⊢
        have hb5 := KB b _ hb1 id
        have S5 := S1.same KB
        walk_at "hs"
        refine HS.in0 rfl ?_
        walk_at "hs"
        refine ⟨s, d, m, n, rfl, S5, by omega, by omega, by omega, fun H6 v K6 S6 v0 v1 => ?_⟩
        have hb6 := K6 b _ hb5 (by walk_at "ns")
        walk_at "hs"
        intro L hL
        have bL : b ≠ L := ne_of_none hb6 hL
        walk_at "hs"
        have w0 : 1 ≤ 1 + v := by omega
        have w1 : 1 + v ≤ 60 := by omega
        generalize 1 + v = wd at w0 w1 ⊢
        have hb7 : upd H6 L (.lst []) b = some (.lst (ls.map V.int)) := by rw [upd_ne bL]; exact hb6
        refine ⟨b, ls, wd, rfl, HS.sq hb7, hp, by omega, w0, by omega, fun H7 K7 => ?_⟩
        have sm := sum_small hB
        have pc0 := pcount_pos hp w0
        have pc1 := pcount_sum hp sm.1 w0
        have K67 : HS.Keep (fun _ => False) H6 H7 := (HS.Keep.new hL).trans K7
        have e7 := K7 L _ upd_same id
        walk_at "hs"
        refine ⟨by omega, by omega, ?_⟩
        refine for_range (lo := 0) (n := (pcount ls wd).toNat) (fun i σ H' => HS.Keep (fun _ => False) H6 H' ∧ ∃ (vs : List V) (x3 x9 x10 x11 : Option V), σ = [some (.ref s), some (.ref b), some (.int m), x3, none, some (.ref D), some (.int wd), some (.ref D2), some (.ref L), x9, x10, x11, none, none, none] ∧ H' L = some (.lst vs) ∧ HS.Prs H' vs (upto wd ls 1 i) ∧ vs.length ≤ 60 * i) ?_ ?_ ?_
        · refine ⟨K67, [], none, none, none, none, rfl, e7, ?_, Nat.le_refl _⟩
          rw [show upto wd ls 1 ((0 : Nat) : Int) = [] from upto_none w0 ls 1 _ hp (Int.le_refl _)]
          trivial
        · rintro i σ H8 hi ⟨K8, vs, x3, x9, x10, x11, rfl, eL, hP, hvl⟩
          have hb8 := K8 b _ hb6 id
          rw [Int.zero_add]
          walk_at "hs"
          refine ⟨b, ls, wd, (i : Int) + 1, rfl, HS.sq hb8, hp, by omega, w0, by omega, by omega, by omega, by omega, fun H9 t c z K9 ht hz hq1 hq2 et => ?_⟩
          have hPc := pcount_take wd hz
          have hcz := ceil_le (x := z) (q := (i : Int) + 1 - pcount (ls.take c) wd - 1) w0
          have hst := upto_step w0 ls c 1 ((i : Int) + 1) hp hz hq1 hq2
          have hzB := hB z (List.mem_of_getElem? hz)
          have hz' : ls[((((c + 1 : Nat) : Int)) - 1).toNat]? = some z := by rw [show (((c + 1 : Nat) : Int) - 1).toNat = c by omega]; exact hz
          have r0 : 0 ≤ ((i : Int) + 1 - pcount (ls.take c) wd - 1) * wd := Int.mul_nonneg (by omega) (by omega)
          have r1 : ((i : Int) + 1 - pcount (ls.take c) wd - 1) * wd < z := by omega
          have r2 : (((i : Int) + 1 - pcount (ls.take c) wd - 1) * wd + 1 + wd - 1) / wd = (i : Int) + 1 - pcount (ls.take c) wd := by
            rw [Int.sub_mul ((i : Int) + 1 - pcount (ls.take c) wd) 1 wd, Int.one_mul]
            generalize (i : Int) + 1 - pcount (ls.take c) wd = g
            rw [show g * wd - wd + 1 + wd - 1 = 0 + g * wd by omega, Int.add_mul_ediv_right _ _ (by omega), Int.zero_ediv, Int.zero_add]
          generalize ((i : Int) + 1 - pcount (ls.take c) wd - 1) * wd = r at et hst r0 r1 r2
          have hb9 := K9 b _ hb8 id
          walk_at "hs"
          refine HS.it0 (by omega) ?_
          walk_at "hs"
          refine ⟨b, ls, wd, _, r + 1, z, rfl, HS.sq hb9, hp, by omega, w0, by omega, by omega, hz', by omega, by omega, fun H10 K10 => ?_⟩
          rw [show (((c + 1 : Nat) : Int) - 1).toNat = c by omega, r2]
          walk_at "hs"
          refine HS.in0 (by omega) ?_
          walk_at "hs"
          have K810 : HS.Keep (fun _ => False) H8 H10 := K9.trans K10
          have eL10 := K810 L _ eL id
          have hP10 := hP.same K810
          rw [show (i : Int) + 1 - 1 = i by omega, show 1 + (c : Int) = ((c + 1 : Nat) : Int) by omega] at hst
          have hf : 1 ≤ r + 1 ∧ r + 1 ≤ 60 := by omega
          have hl : r + 1 ≤ min (r + wd) z ∧ min (r + wd) z ≤ 60 := by omega
          generalize min (r + wd) z = la at hl hst ⊢
          generalize ((c + 1 : Nat) : Int) = pt at hst ⊢
          generalize r + 1 = fi at hf hl hst ⊢
          refine ⟨.inl ⟨rfl, _, .inl (.inl eL10)⟩, ?_⟩
          walk_at "hs"
          refine ⟨by omega, fun D4 hD4 => ?_⟩
          have LD : L ≠ D4 := ne_of_none eL10 hD4
          refine lc_range (lo := fi) (n := (la + 1 - fi).toNat) (fun j H' => HS.Keep (fun _ => False) H10 H' ∧ ∃ ws : List V, H' D4 = some (.lst ws) ∧ HS.Prs H' ws ((List.range j).map fun (t : Nat) => (pt, fi + (t : Int)))) ?_ ?_ ?_
          · exact ⟨HS.Keep.new hD4, [], upd_same, trivial⟩
          · rintro j H11 hj ⟨K11, ws, e11, P11⟩
            walk_at "hs"
            intro tp htp
            have DT : D4 ≠ tp := ne_of_none e11 htp
            have e12 : upd H11 tp (.tup [.int pt, .int (fi + (j : Int))]) D4 = some (.lst ws) := by rw [upd_ne DT]; exact e11
            have wl := P11.len
            rw [List.length_map, List.length_range] at wl
            refine ⟨_, e12, HS.sz (by omega), (K11.put (K11.free htp id)).put hD4, _, upd_same, ?_⟩
            rw [List.range_succ, List.map_append]
            exact HS.Prs.put e12 ((P11.new htp).snoc upd_same)
          · rintro H11 ⟨K11, ws, e11, P11⟩
            have wl := P11.len
            rw [List.length_map, List.length_range] at wl
            have eL11 := K11 L _ eL10 id
            have hP11 := hP10.same K11
            walk_at "hs"
            have K611 : HS.Keep (fun _ => False) H6 H11 := K8.trans (K810.trans K11)
            refine ⟨K611.put hL, _, _, _, _, _, rfl, upd_same, ?_, by rw [List.length_append]; omega⟩
            rw [show ((i + 1 : Nat) : Int) = (i : Int) + 1 by omega, ← hst]
            exact HS.Prs.put eL11 (hP11.app P11)
        · rintro σ H8 ⟨K8, vs, x3, x9, x10, x11, rfl, eL, hP, hvl⟩
          walk_at "hs"
          intro L2 hL2
          have hb8 := K8 b _ hb6 id
          walk_at "hs"
          refine ⟨b, ls.map V.int, rfl, HS.Keep.sq (S := fun _ => False) (HS.Keep.new hL2) (HS.sq hb8) id, for_it walk_enum (fun i σ H' => HS.Keep (fun _ => False) H8 H' ∧ ∃ (ws : List V) (x4 x13 : Option V), σ = [some (.ref s), some (.ref b), some (.int m), x3, x4, some (.ref D), some (.int wd), some (.ref D2), some (.ref L), x9, x10, x11, some (.ref L2), x13, none] ∧ H' L2 = some (.lst ws) ∧ HS.Prs H' ws (ev (ls.take i) 1) ∧ ws.length ≤ 60 * i) ⟨.new hL2, [], _, _, rfl, upd_same, trivial, Nat.le_refl _⟩ (fun i σ H' _ ⟨K', _⟩ => K'.sq (HS.sq hb8) id) ?_ ?_⟩
          · rintro i x σ H9 H10 hi ⟨K9, ws, x4, x13, rfl, eE, PE, hwl⟩ ⟨T1, u, v, rfl, hT, rfl, e1, e2⟩
            cases e1
            obtain ⟨z, rfl, hz, _⟩ := HS.get_int e2
            have hzB := hB z (List.mem_of_getElem? hz)
            rw [List.length_map] at hi
            have hev := ev_snoc ls i z 1 hz
            have ET : L2 ≠ T1 := ne_of_none eE hT
            have eE10 : upd H9 T1 (.tup [.int (i : Nat), .int z]) L2 = some (.lst ws) := by rw [upd_ne ET]; exact eE
            have PE10 := PE.new (o := .tup [.int (i : Nat), .int z]) hT
            have K10 := K9.put (o := .tup [.int (i : Nat), .int z]) (K9.free hT id)
            walk_at "hs"
            generalize upd H9 T1 (.tup [.int (i : Nat), .int z]) = H10 at eE10 PE10 K10 ⊢
            refine ⟨by omega, fun D4 hD4 => ?_⟩
            rw [show (z + 1 - 1).toNat = z.toNat by omega]
            refine lc_range (lo := 1) (n := z.toNat) (fun j H' => HS.Keep (fun _ => False) H10 H' ∧ ∃ us : List V, H' D4 = some (.lst us) ∧ HS.Prs H' us ((List.range j).map fun (t : Nat) => (1 + (i : Int), (t : Int) + 1))) ?_ ?_ ?_
            · exact ⟨HS.Keep.new hD4, [], upd_same, trivial⟩
            · rintro j H11 hj ⟨K11, us, e11, P11⟩
              rw [show (1 : Int) + (j : Nat) = (j : Int) + 1 by omega]
              walk_at "hs"
              rw [show ((i : Nat) : Int) + 1 = 1 + (i : Int) by omega]
              intro tp htp
              have DT : D4 ≠ tp := ne_of_none e11 htp
              have e12 : upd H11 tp (.tup [.int (1 + (i : Int)), .int ((j : Int) + 1)]) D4 = some (.lst us) := by rw [upd_ne DT]; exact e11
              have wl := P11.len
              rw [List.length_map, List.length_range] at wl
              refine ⟨_, e12, HS.sz (by omega), (K11.put (K11.free htp id)).put hD4, _, upd_same, ?_⟩
              rw [List.range_succ, List.map_append]
              exact HS.Prs.put e12 ((P11.new htp).snoc upd_same)
            · rintro H11 ⟨K11, us, e11, P11⟩
              have wl := P11.len
              rw [List.length_map, List.length_range] at wl
              have eE11 := K11 L2 _ eE10 id
              have PE11 := PE10.same K11
              walk_at "hs"
              have K811 : HS.Keep (fun _ => False) H8 H11 := K10.trans K11
              refine ⟨K811.put hL2, _, _, _, rfl, upd_same, ?_, by rw [List.length_append]; omega⟩
              rw [hev]
              exact HS.Prs.put eE11 (PE11.app P11)
          · rintro σ H9 ⟨K9, ws, x4, x13, rfl, eE, PE, hwl⟩
            walk_at "hs"
            have hP9 := hP.same K9
            rw [List.length_map, List.take_length] at PE
            refine HS.eqP (HS.sq (K9 L _ eL id)) hP9 (HS.sq eE) PE ?_
            rw [decide_eq_true (show upto wd ls 1 ((pcount ls wd).toNat : Int) = ev ls 1 by rw [show ((pcount ls wd).toNat : Int) = pcount ls wd by omega]; exact upto_every w0 ls 1 hp)]
            exact k _ (K1.any.trans (KB.any.trans (K6.trans (K8.any.trans K9.any)))) ((S6.same K8).same K9)
def sp_law (K : PySem.W.Frag) : Sp := fun vs H Q _ => ∃ (a : Addr) (ns : List Int), vs = [.ref a] ∧ (SqL K H a (ns.map V.int) ∧ ns.length ≤ 63 ∧ ∀ H', Q (.bl true) H')
theorem ok_law (T : Txt K mg A) : FnOk P w K mg base CX0 8 A.a_law A.d_law ["script"] (sp_law K) := by
  have G__law_source : FnOk P w K mg base CX0 1 A.a__law_source A.d__law_source ["script"] (sp__law_source K) := ok__law_source T
  have G__law_lengths : FnOk P w K mg base CX0 2 A.a__law_lengths A.d__law_lengths ["source", "many"] (sp__law_lengths K) := ok__law_lengths T
  have G__law_great_right : FnOk P w K mg base CX0 4 A.a__law_great_right A.d__law_great_right ["source", "lengths"] (sp__law_great_right K) := ok__law_great_right T
  have G__law_draw : FnOk P w K mg base CX0 1 A.a__law_draw A.d__law_draw ["source", "many"] (sp__law_draw K) := ok__law_draw T
  have G__law_small_right : FnOk P w K mg base CX0 7 A.a__law_small_right A.d__law_small_right ["source", "few"] (sp__law_small_right K) := ok__law_small_right T
  have G_pages : FnOk P w K mg base CX0 3 A.a_pages A.d_pages ["book", "size"] (sp_pages K) := ok_pages T
  refine T.F_law.ok sc_law (fun vs H Q E h => ?_) (fun cdv A0 outer s H vs Q E hr h => ?_)
  · obtain ⟨a, ns, rfl, hw⟩ := h
    rfl
  · obtain ⟨a, ns, rfl, hw⟩ := h
    refine ⟨_, (pss_cons (ps_set (i := 1) sc_law.nd rfl (.inr rfl) (pe_call G__law_source (hr.mono (by decide)) (by rfl) T.g__law_source T.F__law_source.kp T.b__law_source .nil pass0 (pa_cons (pv 0) pa_nil)))
    (pss_cons (ps_for PassesOwn.never rfl (pi_range1 (by rfl) T.z_range (pa_cons (pe_op op_add pe_int (pe_callB (call_min2 rfl) (by rfl) T.z_min (by decide +kernel) (pa_cons pe_int (pa_cons (pe_callB (HS.klen K) (by rfl) T.z_len PySem.boot_len (pa_cons (pv 0) pa_nil)) pa_nil)))) pa_nil)) (pg_name (i := 2) sc_law.nd rfl (.inl rfl))
      (pss_cons (ps_set (i := 3) sc_law.nd rfl (.inl rfl) (pe_call G__law_lengths (hr.mono (by decide)) (by rfl) T.g__law_lengths T.F__law_lengths.kp T.b__law_lengths .nil pass0 (pa_cons (pv 1) (pa_cons pe_int pa_nil))))
    (pss_cons (ps_for PassesOwn.never rfl (pi_range1 (by rfl) T.z_range (pa_cons pe_int pa_nil)) (pg_name (i := 4) sc_law.nd rfl (.inl rfl))
      (pss_one (ps_if (pt_not (pt_val (pe_call G__law_great_right (hr.mono (by decide)) (by rfl) T.g__law_great_right T.F__law_great_right.kp T.b__law_great_right .nil pass0 (pa_cons (pv 1) (pa_cons (pv 3) pa_nil)))))
      (pss_one (ps_ret pe_bl))
      pss_nil)))
    (pss_cons (ps_setLc (i := 5) (own := [("part", 6)]) (g := gName 6) (tt := tYes) rfl sc_law.nd rfl rfl (sw_true rfl rfl rfl (by decide +kernel)) (pi_range1 (by rfl) T.z_range (pa_cons (pe_call G__law_draw (hr.mono (by decide)) (by rfl) T.g__law_draw T.F__law_draw.kp T.b__law_draw .nil pass0 (pa_cons (pv 1) (pa_cons pe_int pa_nil))) pa_nil)) (blkOk_by (own := [("part", 6)]) (N := N_law) (sc := defScope s_law) (by decide +kernel)) (fun _ _ _ _ _ => pg_name (i := 6) sc_law.nd rfl (by first | exact .inl rfl | exact .inr rfl)) (fun _ _ _ _ _ => pts_nil) (fun _ _ _ _ _ => (pe_op op_add pe_int (pe_call G__law_draw (hr.mono (by decide)) (by rfl) T.g__law_draw T.F__law_draw.kp T.b__law_draw .nil pass0 (pa_cons (pv 1) (pa_cons (pe_ix (HS.ixl K) (pe_lst (pa_cons pe_int (pa_cons pe_int (pa_cons pe_int pa_nil)))) (pe_call G__law_draw (hr.mono (by decide)) (by rfl) T.g__law_draw T.F__law_draw.kp T.b__law_draw .nil pass0 (pa_cons (pv 1) (pa_cons pe_int pa_nil))) (fun _ _ => rfl)) pa_nil))))))
    (pss_one (ps_if (pt_not (pt_val (pe_call G__law_small_right hr (by rfl) T.g__law_small_right T.F__law_small_right.kp T.b__law_small_right .nil pass0 (pa_cons (pv 1) (pa_cons (pv 5) pa_nil)))))
      (pss_one (ps_ret pe_bl))
      pss_nil))))))
    (pss_one (ps_ret (pe_cmpR op_eq (pe_call G_pages (hr.mono (by decide)) (by rfl) T.g_pages T.F_pages.kp T.b_pages .nil pass0 (pa_cons (pe_lst (pa_cons pe_int (pa_cons pe_int pa_nil))) (pa_cons pe_int pa_nil))) (pe_call G_pages (hr.mono (by decide)) (by rfl) T.g_pages T.F_pages.kp T.b_pages .nil pass0 (pa_cons (pe_lst (pa_cons pe_int (pa_cons pe_int pa_nil))) (pa_cons pe_int pa_nil))) (nomark _)))))), ?_⟩
    obtain ⟨ha, hl, k⟩ := hw
    walk_at "hs"
    refine ⟨a, ns, rfl, ha, hl, fun H1 s d K1 hs hd S1 => ?_⟩
    have ha1 := K1.sq ha id
    walk_at "hs"
    generalize hcn : (3 + if ((List.map V.int ns).length : Int) < 8 then ((List.map V.int ns).length : Int) else 8) = cn
    have hc : 0 ≤ cn ∧ cn ≤ 11 := by rw [← hcn, List.length_map]; split <;> omega
    refine ⟨by omega, by omega, ?_⟩
    refine for_range (lo := 0) (n := cn.toNat) (fun i σ H' => ∃ (x2 x3 x4 x5 : Option V), σ = [some (.ref a), some (.ref s), x2, x3, x4, x5, none] ∧ Src H' s d (200 * i)) ?_ ?_ ?_
    · exact ⟨none, none, none, none, rfl, S1⟩
    · rintro i σ H2 hi ⟨x2, x3, x4, x5, rfl, S2⟩
      walk_at "hs"
      refine ⟨s, d, 40, _, rfl, S2, by decide, by decide, by omega, fun H3 p ls K3 hp hp3 hll hB S3 => ?_⟩
      have ps := S2.ne1 hp
      have pd := S2.ne2 hp
      walk_at "hs"
      refine ⟨by decide, by decide, ?_⟩
      refine for_range (lo := 0) (n := (6 : Int).toNat) (fun j σ H' => ∃ (y2 y4 : Option V), σ = [some (.ref a), some (.ref s), y2, some (.ref p), y4, x5, none] ∧ SqL K H' p (ls.map V.int) ∧ Src H' s d (200 * i + 2 + 2 * ls.length + 8 * j)) ?_ ?_ ?_
      · exact ⟨_, _, rfl, HS.sq hp3, S3⟩
      · rintro j σ H4 hj ⟨y2, y4, rfl, hp4, S4⟩
        have hj6 : j < 6 := hj
        walk_at "hs"
        refine ⟨s, d, p, ls, _, rfl, S4, hp4, ps, pd, by omega, hB, by omega, fun H5 K5 S5 => ?_⟩
        walk_at "hs"
        exact ⟨_, _, rfl, K5.sq hp4 (by walk_at "ns"), S5.up (by omega)⟩
      · rintro σ H4 ⟨y2, y4, rfl, hp4, S4⟩
        have S4 := S4.up (m := 200 * i + 130) (by have : (6 : Int).toNat = 6 := rfl; omega)
        walk_at "hs"
        refine ⟨s, d, 7, _, rfl, S4, by decide, by decide, by omega, fun H5 c K5 S5 c0 c1 => ?_⟩
        walk_at "hs"
        refine ⟨by omega, by omega, fun D hD => ?_⟩
        have e3 := S5.ne1 hD
        have e4 := S5.ne2 hD
        refine lc_range (lo := 0) (n := c.toNat) (fun j H' => HS.Keep (fun a => a = s ∨ a = d) H5 H' ∧ ∃ us : List Int, H' D = some (.lst (us.map V.int)) ∧ us.length = j ∧ (∀ x ∈ us, 1 ≤ x ∧ x ≤ 60) ∧ Src H' s d (200 * i + 131 + 2 * j)) ?_ ?_ ?_
        · exact ⟨HS.Keep.new hD, [], upd_same, rfl, fun x hx => absurd hx List.not_mem_nil, S5.new hD⟩
        · rintro j H6 hj ⟨K6, us, hu, hul, hub, S6⟩
          walk_at "hs"
          intro p2 hp2
          have e5 := S6.ne1 hp2
          have e6 := S6.ne2 hp2
          walk_at "hs"
          refine ⟨s, d, 3, _, rfl, S6.new hp2, by decide, by decide, by omega, fun H7 v K7 S7 v0 v1 => ?_⟩
          refine HS.ixI [3, 12, 60] (K7.sq (HS.sq upd_same) (by walk_at "ns")) v0 v1 fun wx _ hw => ?_
          have hwx : 1 ≤ wx ∧ wx ≤ 60 := by
            simp only [List.mem_cons, List.not_mem_nil, or_false] at hw
            omega
          walk_at "hs"
          refine ⟨s, d, wx, _, rfl, S7, by omega, by omega, by omega, fun H8 u K8 S8 u0 u1 => ?_⟩
          walk_at "hs"
          have K68 : HS.Keep (fun a => a = s ∨ a = d) H6 H8 := (HS.Keep.new hp2).trans (K7.trans K8)
          have hu8 := K68 _ _ hu (by walk_at "ns")
          refine ⟨_, hu8, HS.sz (by walk_at "len"), (K6.trans K68).put hD, us ++ [1 + u], by rw [upd_same, List.map_append]; rfl, by walk_at "len", ?_, (S8.put e3 e4).up (by omega)⟩
          intro x hx
          rcases List.mem_append.mp hx with hx | hx
          · exact hub x hx
          · rw [List.mem_singleton] at hx; omega
        · rintro H6 ⟨K6, us, hu, hul, hub, S6⟩
          walk_at "hs"
          refine ⟨s, d, D, us, _, rfl, S6, hu, e3, e4, by omega, hub, by omega, fun H7 K7 S7 => ?_⟩
          walk_at "hs"
          exact ⟨_, _, _, _, rfl, S7.up (by omega)⟩
    · rintro σ H2 ⟨x2, x3, x4, x5, rfl, S2⟩
      walk_at "hs"
      intro q1 hq1
      walk_at "hs"
      refine ⟨q1, [3, 5], 2, rfl, HS.sq upd_same, by simp, by decide, by decide, by decide, fun H3 K3 => ?_⟩
      walk_at "hs"
      intro q2 hq2
      walk_at "hs"
      refine ⟨q2, [5, 3], 2, rfl, HS.sq upd_same, by simp, by decide, by decide, by decide, fun H4 K4 => ?_⟩
      walk_at "hs"
      rw [decide_eq_true (show pcount [3, 5] 2 = pcount [5, 3] 2 by decide)]
      exact k _
end
theorem all_mk {l : PySem.W.OpenLaw} {w : World} {K : PySem.W.Frag} {h : Heap} {mg : Str → Option Value} {fa f0 f1 f2 f3 f4 f5 f6 f7 f8 f9 f10 f11 f12 f13 f14 f15 f16 f17 f18 : Addr} (X : K.In h) (G : h.Ns mainGlobals mg) (hfa : mg "law" = some (.ref fa))
    {od0 an0 od1 an1 od2 an2 od3 an3 od4 an4 od5 an5 od6 an6 od7 an7 od8 an8 od9 an9 od10 an10 od11 an11 od12 an12 od13 an13 od14 an14 od15 an15 od16 an16 od17 an17 od18 an18 : Option Addr} {sl0 sl1 sl2 sl3 sl4 sl5 sl6 sl7 sl8 sl9 sl10 sl11 sl12 sl13 sl14 sl15 sl16 sl17 sl18 : Array (Option Value)} {oc0 kV0 dc0 pm0 cd0 ct0 oc1 kV1 dc1 pm1 cd1 ct1 oc2 kV2 dc2 pm2 cd2 ct2 oc3 kV3 dc3 pm3 cd3 ct3 oc4 kV4 dc4 pm4 cd4 ct4 oc5 kV5 dc5 pm5 cd5 ct5 oc6 kV6 dc6 pm6 cd6 ct6 oc7 kV7 dc7 pm7 cd7 ct7 oc8 kV8 dc8 pm8 cd8 ct8 oc9 kV9 dc9 pm9 cd9 ct9 oc10 kV10 dc10 pm10 cd10 ct10 oc11 kV11 dc11 pm11 cd11 ct11 oc12 kV12 dc12 pm12 cd12 ct12 oc13 kV13 dc13 pm13 cd13 ct13 oc14 kV14 dc14 pm14 cd14 ct14 oc15 kV15 dc15 pm15 cd15 ct15 oc16 kV16 dc16 pm16 cd16 ct16 oc17 kV17 dc17 pm17 cd17 ct17 oc18 kV18 dc18 pm18 cd18 ct18 : Value}
    (a0 : PySem.W.nsIn K mainGlobals "_law_source" = some (some (.ref f0)))
    (l0 : K.lookup f0 = some ⟨oc0, od0, .func (PySem.W.fnOf "_law_source" "_law_source" (defArgs s__law_source) (defBody s__law_source) (defScope s__law_source) .none kV0 dc0 pm0 an0 cd0 ct0), sl0⟩) (c0 : PySem.W.codeIn K cd0 "_law_source" = true) (k0 : PySem.W.keepIn K (.ref f0) = true)
    (a1 : PySem.W.nsIn K mainGlobals "_law_draw" = some (some (.ref f1)))
    (l1 : K.lookup f1 = some ⟨oc1, od1, .func (PySem.W.fnOf "_law_draw" "_law_draw" (defArgs s__law_draw) (defBody s__law_draw) (defScope s__law_draw) .none kV1 dc1 pm1 an1 cd1 ct1), sl1⟩) (c1 : PySem.W.codeIn K cd1 "_law_draw" = true) (k1 : PySem.W.keepIn K (.ref f1) = true)
    (a2 : PySem.W.nsIn K mainGlobals "_law_lengths" = some (some (.ref f2)))
    (l2 : K.lookup f2 = some ⟨oc2, od2, .func (PySem.W.fnOf "_law_lengths" "_law_lengths" (defArgs s__law_lengths) (defBody s__law_lengths) (defScope s__law_lengths) .none kV2 dc2 pm2 an2 cd2 ct2), sl2⟩) (c2 : PySem.W.codeIn K cd2 "_law_lengths" = true) (k2 : PySem.W.keepIn K (.ref f2) = true)
    (a3 : PySem.W.nsIn K mainGlobals "_law_wide" = some (some (.ref f3)))
    (l3 : K.lookup f3 = some ⟨oc3, od3, .func (PySem.W.fnOf "_law_wide" "_law_wide" (defArgs s__law_wide) (defBody s__law_wide) (defScope s__law_wide) .none kV3 dc3 pm3 an3 cd3 ct3), sl3⟩) (c3 : PySem.W.codeIn K cd3 "_law_wide" = true) (k3 : PySem.W.keepIn K (.ref f3) = true)
    (a4 : PySem.W.nsIn K mainGlobals "_law_sheets" = some (some (.ref f4)))
    (l4 : K.lookup f4 = some ⟨oc4, od4, .func (PySem.W.fnOf "_law_sheets" "_law_sheets" (defArgs s__law_sheets) (defBody s__law_sheets) (defScope s__law_sheets) .none kV4 dc4 pm4 an4 cd4 ct4), sl4⟩) (c4 : PySem.W.codeIn K cd4 "_law_sheets" = true) (k4 : PySem.W.keepIn K (.ref f4) = true)
    (a5 : PySem.W.nsIn K mainGlobals "check_book" = some (some (.ref f5)))
    (l5 : K.lookup f5 = some ⟨oc5, od5, .func (PySem.W.fnOf "check_book" "check_book" (defArgs s_check_book) (defBody s_check_book) (defScope s_check_book) .none kV5 dc5 pm5 an5 cd5 ct5), sl5⟩) (c5 : PySem.W.codeIn K cd5 "check_book" = true) (k5 : PySem.W.keepIn K (.ref f5) = true)
    (a6 : PySem.W.nsIn K mainGlobals "check_size" = some (some (.ref f6)))
    (l6 : K.lookup f6 = some ⟨oc6, od6, .func (PySem.W.fnOf "check_size" "check_size" (defArgs s_check_size) (defBody s_check_size) (defScope s_check_size) .none kV6 dc6 pm6 an6 cd6 ct6), sl6⟩) (c6 : PySem.W.codeIn K cd6 "check_size" = true) (k6 : PySem.W.keepIn K (.ref f6) = true)
    (a7 : PySem.W.nsIn K mainGlobals "check_not_negative" = some (some (.ref f7)))
    (l7 : K.lookup f7 = some ⟨oc7, od7, .func (PySem.W.fnOf "check_not_negative" "check_not_negative" (defArgs s_check_not_negative) (defBody s_check_not_negative) (defScope s_check_not_negative) .none kV7 dc7 pm7 an7 cd7 ct7), sl7⟩) (c7 : PySem.W.codeIn K cd7 "check_not_negative" = true) (k7 : PySem.W.keepIn K (.ref f7) = true)
    (a8 : PySem.W.nsIn K mainGlobals "check_number" = some (some (.ref f8)))
    (l8 : K.lookup f8 = some ⟨oc8, od8, .func (PySem.W.fnOf "check_number" "check_number" (defArgs s_check_number) (defBody s_check_number) (defScope s_check_number) .none kV8 dc8 pm8 an8 cd8 ct8), sl8⟩) (c8 : PySem.W.codeIn K cd8 "check_number" = true) (k8 : PySem.W.keepIn K (.ref f8) = true)
    (a9 : PySem.W.nsIn K mainGlobals "chapter_pages" = some (some (.ref f9)))
    (l9 : K.lookup f9 = some ⟨oc9, od9, .func (PySem.W.fnOf "chapter_pages" "chapter_pages" (defArgs s_chapter_pages) (defBody s_chapter_pages) (defScope s_chapter_pages) .none kV9 dc9 pm9 an9 cd9 ct9), sl9⟩) (c9 : PySem.W.codeIn K cd9 "chapter_pages" = true) (k9 : PySem.W.keepIn K (.ref f9) = true)
    (a10 : PySem.W.nsIn K mainGlobals "count_pages" = some (some (.ref f10)))
    (l10 : K.lookup f10 = some ⟨oc10, od10, .func (PySem.W.fnOf "count_pages" "count_pages" (defArgs s_count_pages) (defBody s_count_pages) (defScope s_count_pages) .none kV10 dc10 pm10 an10 cd10 ct10), sl10⟩) (c10 : PySem.W.codeIn K cd10 "count_pages" = true) (k10 : PySem.W.keepIn K (.ref f10) = true)
    (a11 : PySem.W.nsIn K mainGlobals "pages" = some (some (.ref f11)))
    (l11 : K.lookup f11 = some ⟨oc11, od11, .func (PySem.W.fnOf "pages" "pages" (defArgs s_pages) (defBody s_pages) (defScope s_pages) .none kV11 dc11 pm11 an11 cd11 ct11), sl11⟩) (c11 : PySem.W.codeIn K cd11 "pages" = true) (k11 : PySem.W.keepIn K (.ref f11) = true)
    (a12 : PySem.W.nsIn K mainGlobals "page_of" = some (some (.ref f12)))
    (l12 : K.lookup f12 = some ⟨oc12, od12, .func (PySem.W.fnOf "page_of" "page_of" (defArgs s_page_of) (defBody s_page_of) (defScope s_page_of) .none kV12 dc12 pm12 an12 cd12 ct12), sl12⟩) (c12 : PySem.W.codeIn K cd12 "page_of" = true) (k12 : PySem.W.keepIn K (.ref f12) = true)
    (a13 : PySem.W.nsIn K mainGlobals "find_chapter" = some (some (.ref f13)))
    (l13 : K.lookup f13 = some ⟨oc13, od13, .func (PySem.W.fnOf "find_chapter" "find_chapter" (defArgs s_find_chapter) (defBody s_find_chapter) (defScope s_find_chapter) .none kV13 dc13 pm13 an13 cd13 ct13), sl13⟩) (c13 : PySem.W.codeIn K cd13 "find_chapter" = true) (k13 : PySem.W.keepIn K (.ref f13) = true)
    (a14 : PySem.W.nsIn K mainGlobals "lines_on" = some (some (.ref f14)))
    (l14 : K.lookup f14 = some ⟨oc14, od14, .func (PySem.W.fnOf "lines_on" "lines_on" (defArgs s_lines_on) (defBody s_lines_on) (defScope s_lines_on) .none kV14 dc14 pm14 an14 cd14 ct14), sl14⟩) (c14 : PySem.W.codeIn K cd14 "lines_on" = true) (k14 : PySem.W.keepIn K (.ref f14) = true)
    (a15 : PySem.W.nsIn K mainGlobals "counts" = some (some (.ref f15)))
    (l15 : K.lookup f15 = some ⟨oc15, od15, .func (PySem.W.fnOf "counts" "counts" (defArgs s_counts) (defBody s_counts) (defScope s_counts) .none kV15 dc15 pm15 an15 cd15 ct15), sl15⟩) (c15 : PySem.W.codeIn K cd15 "counts" = true) (k15 : PySem.W.keepIn K (.ref f15) = true)
    (a16 : PySem.W.nsIn K mainGlobals "_law_great_right" = some (some (.ref f16)))
    (l16 : K.lookup f16 = some ⟨oc16, od16, .func (PySem.W.fnOf "_law_great_right" "_law_great_right" (defArgs s__law_great_right) (defBody s__law_great_right) (defScope s__law_great_right) .none kV16 dc16 pm16 an16 cd16 ct16), sl16⟩) (c16 : PySem.W.codeIn K cd16 "_law_great_right" = true) (k16 : PySem.W.keepIn K (.ref f16) = true)
    (a17 : PySem.W.nsIn K mainGlobals "_law_small_right" = some (some (.ref f17)))
    (l17 : K.lookup f17 = some ⟨oc17, od17, .func (PySem.W.fnOf "_law_small_right" "_law_small_right" (defArgs s__law_small_right) (defBody s__law_small_right) (defScope s__law_small_right) .none kV17 dc17 pm17 an17 cd17 ct17), sl17⟩) (c17 : PySem.W.codeIn K cd17 "_law_small_right" = true) (k17 : PySem.W.keepIn K (.ref f17) = true)
    (a18 : PySem.W.nsIn K mainGlobals "law" = some (some (.ref f18)))
    (l18 : K.lookup f18 = some ⟨oc18, od18, .func (PySem.W.fnOf "law" "law" (defArgs s_law) (defBody s_law) (defScope s_law) .none kV18 dc18 pm18 an18 cd18 ct18), sl18⟩) (c18 : PySem.W.codeIn K cd18 "law" = true) (k18 : PySem.W.keepIn K (.ref f18) = true)
    (z0 : PySem.W.nsIn K mainGlobals "enumerate" = some none)
    (z1 : PySem.W.nsIn K mainGlobals "int" = some none)
    (z2 : PySem.W.nsIn K mainGlobals "len" = some none)
    (z3 : PySem.W.nsIn K mainGlobals "list" = some none)
    (z4 : PySem.W.nsIn K mainGlobals "max" = some none)
    (z5 : PySem.W.nsIn K mainGlobals "min" = some none)
    (z6 : PySem.W.nsIn K mainGlobals "range" = some none)
    (z7 : PySem.W.nsIn K mainGlobals "sum" = some none)
    : ∃ fd : FuncData, (∀ (s : Shared) (v : Value), BindsTo s fd ⟨[v], []⟩ [("script", v)]) ∧ ∀ base : Heap, K.In base → base.Ns mainGlobals mg → FnOk l.prog w K mg base CX0 8 fa fd ["script"] (sp_law K) := by
  have e := hfa.symm.trans (PySem.W.mg_of X G a18)
  cases e
  have F0 := fun_mk (st := s__law_source) l0 c0 k0
  have F1 := fun_mk (st := s__law_draw) l1 c1 k1
  have F2 := fun_mk (st := s__law_lengths) l2 c2 k2
  have F3 := fun_mk (st := s__law_wide) l3 c3 k3
  have F4 := fun_mk (st := s__law_sheets) l4 c4 k4
  have F5 := fun_mk (st := s_check_book) l5 c5 k5
  have F6 := fun_mk (st := s_check_size) l6 c6 k6
  have F7 := fun_mk (st := s_check_not_negative) l7 c7 k7
  have F8 := fun_mk (st := s_check_number) l8 c8 k8
  have F9 := fun_mk (st := s_chapter_pages) l9 c9 k9
  have F10 := fun_mk (st := s_count_pages) l10 c10 k10
  have F11 := fun_mk (st := s_pages) l11 c11 k11
  have F12 := fun_mk (st := s_page_of) l12 c12 k12
  have F13 := fun_mk (st := s_find_chapter) l13 c13 k13
  have F14 := fun_mk (st := s_lines_on) l14 c14 k14
  have F15 := fun_mk (st := s_counts) l15 c15 k15
  have F16 := fun_mk (st := s__law_great_right) l16 c16 k16
  have F17 := fun_mk (st := s__law_small_right) l17 c17 k17
  have F18 := fun_mk (st := s_law) l18 c18 k18
  have T : Txt K mg ⟨f0, PySem.W.fnOf "_law_source" "_law_source" (defArgs s__law_source) (defBody s__law_source) (defScope s__law_source) .none kV0 dc0 pm0 an0 cd0 ct0, f1, PySem.W.fnOf "_law_draw" "_law_draw" (defArgs s__law_draw) (defBody s__law_draw) (defScope s__law_draw) .none kV1 dc1 pm1 an1 cd1 ct1, f2, PySem.W.fnOf "_law_lengths" "_law_lengths" (defArgs s__law_lengths) (defBody s__law_lengths) (defScope s__law_lengths) .none kV2 dc2 pm2 an2 cd2 ct2, f3, PySem.W.fnOf "_law_wide" "_law_wide" (defArgs s__law_wide) (defBody s__law_wide) (defScope s__law_wide) .none kV3 dc3 pm3 an3 cd3 ct3, f4, PySem.W.fnOf "_law_sheets" "_law_sheets" (defArgs s__law_sheets) (defBody s__law_sheets) (defScope s__law_sheets) .none kV4 dc4 pm4 an4 cd4 ct4, f5, PySem.W.fnOf "check_book" "check_book" (defArgs s_check_book) (defBody s_check_book) (defScope s_check_book) .none kV5 dc5 pm5 an5 cd5 ct5, f6, PySem.W.fnOf "check_size" "check_size" (defArgs s_check_size) (defBody s_check_size) (defScope s_check_size) .none kV6 dc6 pm6 an6 cd6 ct6, f7, PySem.W.fnOf "check_not_negative" "check_not_negative" (defArgs s_check_not_negative) (defBody s_check_not_negative) (defScope s_check_not_negative) .none kV7 dc7 pm7 an7 cd7 ct7, f8, PySem.W.fnOf "check_number" "check_number" (defArgs s_check_number) (defBody s_check_number) (defScope s_check_number) .none kV8 dc8 pm8 an8 cd8 ct8, f9, PySem.W.fnOf "chapter_pages" "chapter_pages" (defArgs s_chapter_pages) (defBody s_chapter_pages) (defScope s_chapter_pages) .none kV9 dc9 pm9 an9 cd9 ct9, f10, PySem.W.fnOf "count_pages" "count_pages" (defArgs s_count_pages) (defBody s_count_pages) (defScope s_count_pages) .none kV10 dc10 pm10 an10 cd10 ct10, f11, PySem.W.fnOf "pages" "pages" (defArgs s_pages) (defBody s_pages) (defScope s_pages) .none kV11 dc11 pm11 an11 cd11 ct11, f12, PySem.W.fnOf "page_of" "page_of" (defArgs s_page_of) (defBody s_page_of) (defScope s_page_of) .none kV12 dc12 pm12 an12 cd12 ct12, f13, PySem.W.fnOf "find_chapter" "find_chapter" (defArgs s_find_chapter) (defBody s_find_chapter) (defScope s_find_chapter) .none kV13 dc13 pm13 an13 cd13 ct13, f14, PySem.W.fnOf "lines_on" "lines_on" (defArgs s_lines_on) (defBody s_lines_on) (defScope s_lines_on) .none kV14 dc14 pm14 an14 cd14 ct14, f15, PySem.W.fnOf "counts" "counts" (defArgs s_counts) (defBody s_counts) (defScope s_counts) .none kV15 dc15 pm15 an15 cd15 ct15, f16, PySem.W.fnOf "_law_great_right" "_law_great_right" (defArgs s__law_great_right) (defBody s__law_great_right) (defScope s__law_great_right) .none kV16 dc16 pm16 an16 cd16 ct16, f17, PySem.W.fnOf "_law_small_right" "_law_small_right" (defArgs s__law_small_right) (defBody s__law_small_right) (defScope s__law_small_right) .none kV17 dc17 pm17 an17 cd17 ct17, fa, PySem.W.fnOf "law" "law" (defArgs s_law) (defBody s_law) (defScope s_law) .none kV18 dc18 pm18 an18 cd18 ct18⟩ :=
    { F__law_source := F0,
      g__law_source := PySem.W.mg_of X G a0,
      b__law_source := F0.binds (ps := ["script"]) fun _ _ _ _ _ _ us hl => match us, hl with | [_], _ => rfl,
      F__law_draw := F1,
      g__law_draw := PySem.W.mg_of X G a1,
      b__law_draw := F1.binds (ps := ["source", "many"]) fun _ _ _ _ _ _ us hl => match us, hl with | [_, _], _ => rfl,
      F__law_lengths := F2,
      g__law_lengths := PySem.W.mg_of X G a2,
      b__law_lengths := F2.binds (ps := ["source", "many"]) fun _ _ _ _ _ _ us hl => match us, hl with | [_, _], _ => rfl,
      F__law_wide := F3,
      g__law_wide := PySem.W.mg_of X G a3,
      b__law_wide := F3.binds (ps := ["source", "lengths"]) fun _ _ _ _ _ _ us hl => match us, hl with | [_, _], _ => rfl,
      F__law_sheets := F4,
      g__law_sheets := PySem.W.mg_of X G a4,
      b__law_sheets := F4.binds (ps := ["long", "wide"]) fun _ _ _ _ _ _ us hl => match us, hl with | [_, _], _ => rfl,
      F_check_book := F5,
      g_check_book := PySem.W.mg_of X G a5,
      b_check_book := F5.binds (ps := ["book"]) fun _ _ _ _ _ _ us hl => match us, hl with | [_], _ => rfl,
      F_check_size := F6,
      g_check_size := PySem.W.mg_of X G a6,
      b_check_size := F6.binds (ps := ["size"]) fun _ _ _ _ _ _ us hl => match us, hl with | [_], _ => rfl,
      F_check_not_negative := F7,
      g_check_not_negative := PySem.W.mg_of X G a7,
      b_check_not_negative := F7.binds (ps := ["number"]) fun _ _ _ _ _ _ us hl => match us, hl with | [_], _ => rfl,
      F_check_number := F8,
      g_check_number := PySem.W.mg_of X G a8,
      b_check_number := F8.binds (ps := ["number", "least", "greatest"]) fun _ _ _ _ _ _ us hl => match us, hl with | [_, _, _], _ => rfl,
      F_chapter_pages := F9,
      g_chapter_pages := PySem.W.mg_of X G a9,
      b_chapter_pages := F9.binds (ps := ["length", "size"]) fun _ _ _ _ _ _ us hl => match us, hl with | [_, _], _ => rfl,
      F_count_pages := F10,
      g_count_pages := PySem.W.mg_of X G a10,
      b_count_pages := F10.binds (ps := ["book", "size"]) fun _ _ _ _ _ _ us hl => match us, hl with | [_, _], _ => rfl,
      F_pages := F11,
      g_pages := PySem.W.mg_of X G a11,
      b_pages := F11.binds (ps := ["book", "size"]) fun _ _ _ _ _ _ us hl => match us, hl with | [_, _], _ => rfl,
      F_page_of := F12,
      g_page_of := PySem.W.mg_of X G a12,
      b_page_of := F12.binds (ps := ["book", "size", "chapter", "line"]) fun _ _ _ _ _ _ us hl => match us, hl with | [_, _, _, _], _ => rfl,
      F_find_chapter := F13,
      g_find_chapter := PySem.W.mg_of X G a13,
      b_find_chapter := F13.binds (ps := ["book", "size", "page"]) fun _ _ _ _ _ _ us hl => match us, hl with | [_, _, _], _ => rfl,
      F_lines_on := F14,
      g_lines_on := PySem.W.mg_of X G a14,
      b_lines_on := F14.binds (ps := ["book", "size", "page"]) fun _ _ _ _ _ _ us hl => match us, hl with | [_, _, _], _ => rfl,
      F_counts := F15,
      g_counts := PySem.W.mg_of X G a15,
      b_counts := F15.binds (ps := ["book", "limit"]) fun _ _ _ _ _ _ us hl => match us, hl with | [_, _], _ => rfl,
      F__law_great_right := F16,
      g__law_great_right := PySem.W.mg_of X G a16,
      b__law_great_right := F16.binds (ps := ["source", "lengths"]) fun _ _ _ _ _ _ us hl => match us, hl with | [_, _], _ => rfl,
      F__law_small_right := F17,
      g__law_small_right := PySem.W.mg_of X G a17,
      b__law_small_right := F17.binds (ps := ["source", "few"]) fun _ _ _ _ _ _ us hl => match us, hl with | [_, _], _ => rfl,
      F_law := F18,
      g_law := PySem.W.mg_of X G a18,
      b_law := F18.binds (ps := ["script"]) fun _ _ _ _ _ _ us hl => match us, hl with | [_], _ => rfl,
      z_enumerate := PySem.W.mg_none_of X G z0,
      z_int := PySem.W.mg_none_of X G z1,
      z_len := PySem.W.mg_none_of X G z2,
      z_list := PySem.W.mg_none_of X G z3,
      z_max := PySem.W.mg_none_of X G z4,
      z_min := PySem.W.mg_none_of X G z5,
      z_range := PySem.W.mg_none_of X G z6,
      z_sum := PySem.W.mg_none_of X G z7 }
  exact ⟨_, fun s v => .of_eq rfl, fun base _ _ => ok_law T⟩
end WK05
open PySem PySem.W PyProof.Rows
set_option maxHeartbeats 0 in
theorem PySem.Challenge.cw_pagecounts_k05_whole_pages_and_longer_ch_holds : PySem.Challenge.rw_pagecounts_k05_whole_pages_and_longer_ch.Holds := by
  w_on; o_law; k_head; (case hw => w_witness2)
  k_fill
  refine L2.walk_of (l := PySem.Challenge.rw_pagecounts_k05_whole_pages_and_longer_ch) (n := 63) (k := 8) (x := "script") (CX := fun _ => L2.CX0) (sp := fun w => WK05.sp_law _) rfl (by decide) rfl ⟨rfl, by decide, by decide⟩ (fun w h Y => PySem.W.kIn_of Y) ?F (fun _ _ a ns hl _ hS => ⟨a, ns, rfl, hS, hl, fun _ => rfl⟩) (fun _ _ _ _ _ h => h)
  case F =>
    intro w mg fa h KX G hmg
    refine' WK05.all_mk KX G hmg ?a0 ?l0 ?c0 ?k0 ?a1 ?l1 ?c1 ?k1 ?a2 ?l2 ?c2 ?k2 ?a3 ?l3 ?c3 ?k3 ?a4 ?l4 ?c4 ?k4 ?a5 ?l5 ?c5 ?k5 ?a6 ?l6 ?c6 ?k6 ?a7 ?l7 ?c7 ?k7 ?a8 ?l8 ?c8 ?k8 ?a9 ?l9 ?c9 ?k9 ?a10 ?l10 ?c10 ?k10 ?a11 ?l11 ?c11 ?k11 ?a12 ?l12 ?c12 ?k12 ?a13 ?l13 ?c13 ?k13 ?a14 ?l14 ?c14 ?k14 ?a15 ?l15 ?c15 ?k15 ?a16 ?l16 ?c16 ?k16 ?a17 ?l17 ?c17 ?k17 ?a18 ?l18 ?c18 ?k18 ?z0 ?z1 ?z2 ?z3 ?z4 ?z5 ?z6 ?z7
    (case a0 => k_is); (case l0 => k_is); (case c0 => k_is); (case k0 => k_is); (case a1 => k_is); (case l1 => k_is); (case c1 => k_is); (case k1 => k_is); (case a2 => k_is); (case l2 => k_is); (case c2 => k_is); (case k2 => k_is); (case a3 => k_is); (case l3 => k_is); (case c3 => k_is); (case k3 => k_is); (case a4 => k_is); (case l4 => k_is); (case c4 => k_is); (case k4 => k_is); (case a5 => k_is); (case l5 => k_is); (case c5 => k_is); (case k5 => k_is); (case a6 => k_is); (case l6 => k_is); (case c6 => k_is); (case k6 => k_is); (case a7 => k_is); (case l7 => k_is); (case c7 => k_is); (case k7 => k_is); (case a8 => k_is); (case l8 => k_is); (case c8 => k_is); (case k8 => k_is); (case a9 => k_is); (case l9 => k_is); (case c9 => k_is); (case k9 => k_is); (case a10 => k_is); (case l10 => k_is); (case c10 => k_is); (case k10 => k_is); (case a11 => k_is); (case l11 => k_is); (case c11 => k_is); (case k11 => k_is); (case a12 => k_is); (case l12 => k_is); (case c12 => k_is); (case k12 => k_is); (case a13 => k_is); (case l13 => k_is); (case c13 => k_is); (case k13 => k_is); (case a14 => k_is); (case l14 => k_is); (case c14 => k_is); (case k14 => k_is); (case a15 => k_is); (case l15 => k_is); (case c15 => k_is); (case k15 => k_is); (case a16 => k_is); (case l16 => k_is); (case c16 => k_is); (case k16 => k_is); (case a17 => k_is); (case l17 => k_is); (case c17 => k_is); (case k17 => k_is); (case a18 => k_is); (case l18 => k_is); (case c18 => k_is); (case k18 => k_is); (case z0 => k_is); (case z1 => k_is); (case z2 => k_is); (case z3 => k_is); (case z4 => k_is); (case z5 => k_is); (case z6 => k_is); (case z7 => k_is)

import PyProof.Rows.All
import Wide.All
import OpenK.AllK
import Wide.FinOn
import HandS.Evl
import HandS.GenList
import HandS.Walk
import HandS.WordsExc
import HandS.ForMost
import HandS.Wide
import HandS.Style
import HandS.ExcInit
import HandS.ExcIs
import HandS.ExcField
import HandS.IsInst
import HandS.Defaults
import HandS.Text
import HandS.FStr
import HandS.StrMore
import HandS.RaiseMore
import HandS.SetFor
import HandS.Flow
import KE.KExcIs
import PyProof.ReprRoads
import PyProof.ReprBulk
import PyProof.FitsInt
import PySem.Challenge.RW_pagecounts_k03_places_of_lines
set_option Elab.async false
set_option linter.all false
set_option maxRecDepth 100000
set_option maxHeartbeats 4000000
/-! Readings, step by step, from their heads (own lemmas over HandS). -/
namespace HS
open PySem PySem.Spec PyProof.Rows L2
section
variable {σ : L2.St} {H : Hp} {Q : VK} {t u : TS} {te ta tb tx : TE} {tt tv : TT} {n bk ct : L2.St → Hp → Prop} {rt : VK} {K : PySem.W.Frag}
theorem seq (h : t ⟨u ⟨n, rt, bk, ct⟩, rt, bk, ct⟩ σ H) : tSeq t u ⟨n, rt, bk, ct⟩ σ H := h
theorem nxt (h : n σ H) : tNext ⟨n, rt, bk, ct⟩ σ H := h
theorem brk (h : bk σ H) : tBreak ⟨n, rt, bk, ct⟩ σ H := h
theorem cnt (h : ct σ H) : tCont ⟨n, rt, bk, ct⟩ σ H := h
theorem asg {g : TG} (h : te σ H fun x H1 => g x σ H1 n) : tAsg te g ⟨n, rt, bk, ct⟩ σ H := h
theorem nm {v : V} {i : Nat} {q : L2.St → Hp → Prop} (h : q (σ.set i (some v)) H) : gName i v σ H q := h
theorem sub {to ti : TE} {ts : TSet} {v : V} {q : L2.St → Hp → Prop} (h : to σ H fun o H1 => ti σ H1 fun i H2 => ts o i v H2 fun H3 => q σ H3) : gSub to ti ts v σ H q := h
theorem var {i : Nat} {v : V} (h : σ[i]? = some (some v)) (q : Q v H) : tVar i σ H Q := ⟨v, h, q⟩
theorem cst {v : V} (q : Q v H) : tC v σ H Q := q
theorem op {r : R2} (h : ta σ H fun x H1 => tb σ H1 fun y H2 => r x y H2 Q) : tOp r ta tb σ H Q := h
theorem un {r : V → Hp → VK → Prop} (h : ta σ H fun x H1 => r x H1 Q) : tUn r ta σ H Q := h
theorem i0 {g : Int → Int → V} {i j : Int} (q : Q (g i j) H) : rI0 g (.int i) (.int j) H Q := ⟨i, j, rfl, rfl, q⟩
theorem i1 {C : Int → Int → Prop} {g : Int → Int → V} {i j : Int} (q : C i j ∧ Q (g i j) H) : rI C g (.int i) (.int j) H Q := ⟨i, j, rfl, rfl, q⟩
theorem u0 {g : Int → V} {i : Int} (q : Q (g i) H) : rU g (.int i) H Q := ⟨i, rfl, q⟩
theorem eqI {i j : Int} (q : Q (.bl (decide (i = j))) H) : rEq (.int i) (.int j) H Q := ⟨rfl, by
  have e : decide ((V.int i) = V.int j) = decide (i = j) := by
    by_cases h : i = j
    · rw [h]; simp
    · have h2 : ¬ (V.int i = V.int j) := fun z => h (V.int.inj z)
      rw [decide_eq_false h, decide_eq_false h2]
  rw [e]; exact q⟩
theorem neI {i j : Int} (q : Q (.bl (!decide (i = j))) H) : rNe (.int i) (.int j) H Q := ⟨rfl, by
  have e : decide ((V.int i) = V.int j) = decide (i = j) := by
    by_cases h : i = j
    · rw [h]; simp
    · have h2 : ¬ (V.int i = V.int j) := fun z => h (V.int.inj z)
      rw [decide_eq_false h, decide_eq_false h2]
  rw [e]; exact q⟩
theorem tst {q : Bool → Hp → Prop} (h : te σ H fun x H' => ∃ k, x = .bl k ∧ q k H') : tTest te σ H q := h
theorem tb1 {q : Bool → Hp → Prop} (h : te σ H fun x H' => ∃ k, x = .bl k ∧ q k H') : tB te σ H q := h
theorem bex {b : Bool} {q : Bool → Prop} (h : q b) : ∃ k, V.bl b = V.bl k ∧ q k := ⟨b, rfl, h⟩
theorem ifs (h : tt σ H fun b H1 => if b = true then t ⟨n, rt, bk, ct⟩ σ H1 else u ⟨n, rt, bk, ct⟩ σ H1) : tIfS tt t u ⟨n, rt, bk, ct⟩ σ H := h
theorem ife (h : tt σ H fun b H1 => if b = true then ta σ H1 Q else tb σ H1 Q) : tIf tt ta tb σ H Q := h
theorem and {q : Bool → Hp → Prop} (h : tt σ H fun c H1 => if c = true then tv σ H1 q else q false H1) : tAnd tt tv σ H q := h
theorem or {q : Bool → Hp → Prop} (h : tt σ H fun c H1 => if c = true then q true H1 else tv σ H1 q) : tOr tt tv σ H q := h
theorem not {q : Bool → Hp → Prop} (h : tt σ H fun c H1 => q (!c) H1) : tNot tt σ H q := h
theorem andV (h : ta σ H fun x H1 => ∃ c, x = .bl c ∧ if c = true then tb σ H1 Q else Q (.bl false) H1) : tAndV ta tb σ H Q := h
theorem orV (h : ta σ H fun x H1 => ∃ c, x = .bl c ∧ if c = true then Q (.bl true) H1 else tb σ H1 Q) : tOrV ta tb σ H Q := h
theorem notV (h : ta σ H fun x H1 => ∃ c, x = .bl c ∧ Q (.bl (!c)) H1) : tNotV ta σ H Q := h
theorem chn {r r' : R2} {tc : TE} (h : ta σ H fun x H1 => tb σ H1 fun y H2 => r x y H2 fun z H3 => ∃ k, z = .bl k ∧ if k = true then tc σ H3 fun w H4 => r' y w H4 Q else Q (.bl false) H3) : tChain r r' ta tb tc σ H Q := h
theorem ret (h : te σ H rt) : tRet te ⟨n, rt, bk, ct⟩ σ H := h
theorem retN (h : rt .non H) : tRetN ⟨n, rt, bk, ct⟩ σ H := h
theorem drp (h : te σ H fun _ H1 => n σ H1) : tDrop te ⟨n, rt, bk, ct⟩ σ H := h
theorem cb {r : List V → Hp → VK → Prop} {tl : TA} (h : tl σ H fun vs H1 => r vs H1 Q) : tCB r tl σ H Q := h
theorem anil {q : List V → Hp → Prop} (h : q [] H) : tNil σ H q := h
theorem acons {tl : TA} {q : List V → Hp → Prop} (h : te σ H fun x H1 => tl σ H1 fun xs H2 => q (x :: xs) H2) : tCons te tl σ H q := h
theorem cal {sp : Sp} {E : XK} {tl : TA} (h : tl σ H fun vs H1 => sp vs H1 Q E) : tCall sp [] E tl σ H Q := by
  show tl σ H fun vs H1 => sp (vs ++ []) H1 Q E
  simp only [List.append_nil]; exact h
theorem tup {tl : TA} (h : tl σ H fun xs H1 => xs.length ≤ sizeLine ∧ ∀ p, H1 p = none → Q (.ref p) (upd H1 p (.tup xs))) : tTup tl σ H Q := h
theorem lst {tl : TA} (h : tl σ H fun xs H1 => xs.length ≤ sizeLine ∧ ∀ p, H1 p = none → Q (.ref p) (upd H1 p (.lst xs))) : tLst tl σ H Q := h
theorem par {i j : Nat} {tl : TA} (h : tl σ H fun vs H1 => ∃ v w, vs = [v, w] ∧ n ((σ.set i (some v)).set j (some w)) H1) : tPar i j tl ⟨n, rt, bk, ct⟩ σ H := h
theorem ex2 {v w : V} {q : V → V → Prop} (h : q v w) : ∃ a b, [v, w] = [a, b] ∧ q a b := ⟨v, w, rfl, h⟩
theorem aug {i : Nat} {ti : TIp} {x : V} (e : σ[i]? = some (some x)) (h : te σ H fun y H1 => ti x y H1 fun z H2 => n (σ.set i (some z)) H2) : tAug i te ti ⟨n, rt, bk, ct⟩ σ H := ⟨x, e, h⟩
theorem ipi {f : Int → Int → Int} {i j : Int} (q : Q (.int (f i j)) H) : ipI f (.int i) (.int j) H Q := ⟨i, j, rfl, rfl, q⟩
theorem addI {i j : Int} (q : Q (.int (i + j)) H) : rAdd (.int i) (.int j) H Q := ⟨i, j, rfl, rfl, q⟩
theorem ixL {p : Addr} {xs : List V} {i : Int} {v : V} (h : SqL K H p xs) (e : atI xs i = some v) (q : Q v H) : rIxL K (.ref p) (.int i) H Q := ⟨p, xs, i, v, rfl, rfl, h, e, q⟩
theorem ixT {p : Addr} {xs : List V} {i : Int} {v : V} (h : SqT K H p xs) (e : atI xs i = some v) (q : Q v H) : rIxT K (.ref p) (.int i) H Q := ⟨p, xs, i, v, rfl, rfl, h, e, q⟩
/-- an if over a decided thing -/
theorem itd {c A B : Prop} [Decidable c] (h1 : c → A) (h2 : ¬ c → B) : if decide c = true then A else B := by
  by_cases h : c
  · rw [decide_eq_true h, if_pos rfl]; exact h1 h
  · rw [decide_eq_false h, if_neg Bool.false_ne_true]; exact h2 h
theorem itn {c A B : Prop} [Decidable c] (h1 : ¬ c → A) (h2 : c → B) : if (!decide c) = true then A else B := by
  by_cases h : c
  · rw [decide_eq_true h]; exact iteF (h2 h)
  · rw [decide_eq_false h]; exact iteT (h1 h)
theorem it1 {c A B : Prop} [Decidable c] (hc : c) (h : A) : if decide c = true then A else B := itd (fun _ => h) fun z => absurd hc z
theorem it0 {c A B : Prop} [Decidable c] (hc : ¬ c) (h : B) : if decide c = true then A else B := itd (fun z => absurd z hc) fun _ => h
theorem in1 {c A B : Prop} [Decidable c] (hc : ¬ c) (h : A) : if (!decide c) = true then A else B := itn (fun _ => h) fun z => absurd z hc
theorem in0 {c A B : Prop} [Decidable c] (hc : c) (h : B) : if (!decide c) = true then A else B := itn (fun z => absurd hc z) fun _ => h
end
/-! ### heaps: all but S stands -/
def Keep (S : Addr → Prop) (H H' : Hp) : Prop := ∀ a o, H a = some o → ¬ S a → H' a = some o
section
variable {S : Addr → Prop} {H H1 H2 : Hp} {p q : Addr} {o u : HO}
theorem Keep.refl : Keep S H H := fun _ _ h _ => h
theorem Keep.trans (a : Keep S H H1) (b : Keep S H1 H2) : Keep S H H2 := fun x o h n => b x o (a x o h n) n
theorem Keep.new (h : H p = none) : Keep S H (upd H p o) := fun a u e _ => by rw [upd_ne (ne_of_none e h)]; exact e
theorem Keep.put (k : Keep S H H1) (h : H p = none) : Keep S H (upd H1 p o) := fun a u e n => by rw [upd_ne (ne_of_none e h)]; exact k a u e n
theorem Keep.at (k : Keep S H H1) (h : S p) : Keep S H (upd H1 p o) := fun a u e n => by rw [upd_ne (fun z => n (by rw [z]; exact h))]; exact k a u e n
theorem Keep.free (k : Keep S H H1) (h : H1 p = none) (n : ¬ S p) : H p = none := by
  cases e : H p with
  | none => rfl
  | some o => have z := k p o e n; rw [h] at z; cases z
theorem Keep.sq {K : PySem.W.Frag} {xs : List V} (k : Keep S H H1) (h : SqL K H p xs) (n : ¬ S p) : SqL K H1 p xs := by
  rcases h with (h | ⟨o, h⟩) | h
  · exact .inl (.inl (k _ _ h n))
  · exact .inl (.inr ⟨o, k _ _ h n⟩)
  · exact .inr h
theorem Keep.st {K : PySem.W.Frag} {xs : List V} (k : Keep S H H1) (h : SqT K H p xs) (n : ¬ S p) : SqT K H1 p xs := by
  rcases h with (h | ⟨o, h⟩) | h
  · exact .inl (.inl (k _ _ h n))
  · exact .inl (.inr ⟨o, k _ _ h n⟩)
  · exact .inr h
theorem sq {K : PySem.W.Frag} {xs : List V} (h : H p = some (.lst xs)) : SqL K H p xs := .inl (.inl h)
theorem st {K : PySem.W.Frag} {xs : List V} (h : H p = some (.tup xs)) : SqT K H p xs := .inl (.inl h)
end
end HS
theorem hu64 {A : PySem.Around} {k : Nat} (hr : L2.Room k A) : A.units + 64 < PySem.cLine := hr.units
namespace HS
open PySem PySem.Spec PyProof.Rows L2
section
variable {σ : L2.St} {H : Hp} {Q : VK} {te ta tb tx : TE} {K : PySem.W.Frag} {X : Cx}
theorem sz {n : Nat} (h : n ≤ 100000) : n < sizeLine := Nat.lt_of_le_of_lt h (by decide)
theorem szl {n : Nat} (h : n ≤ 100000) : n ≤ sizeLine := Nat.le_of_lt (sz h)
theorem pe_fold {e : Expr} {t : TE} (z : Int) (h : PE X e t) (k : ∀ (σ : L2.St) (H : Hp) (Q : VK), Q (.int z) H → t σ H Q) : PE X e (tC (.int z)) :=
  ⟨fun pins s σ H Q I q => h.run pins s σ H Q I (k σ H Q q)⟩
theorem ii {a b : Int} {q : Int → Int → Prop} (h : q a b) : ∃ i j, [V.int a, V.int b] = [V.int i, V.int j] ∧ q i j := ⟨a, b, rfl, h⟩
theorem bmL {r : V → List V → Hp → VK → Prop} {tl : TA} (h : ta σ H fun x H1 => tyV K "list" x H1 ∧ tl σ H1 fun xs H2 => r x xs H2 Q) : tBM K "list" r ta tl σ H Q := h
theorem bmL0 {r : V → List V → Hp → VK → Prop} (h : ta σ H fun x H1 => tyV K "list" x H1 ∧ r x [] H1 Q) : tBM0 K "list" r ta σ H Q := h
theorem tyL {p : Addr} {xs : List V} {A : Prop} (h : H p = some (.lst xs)) (q : A) : tyV K "list" (.ref p) H ∧ A := ⟨.inl ⟨rfl, _, .inl (.inl h)⟩, q⟩
theorem app {l : Addr} {xs : List V} {y : V} (h : H l = some (.lst xs)) (q : xs.length < sizeLine ∧ Q .non (upd H l (.lst (xs ++ [y])))) : rAppend (.ref l) [y] H Q := ⟨l, xs, y, rfl, rfl, h, q⟩
theorem pop0 {l : Addr} {y : V} {ys : List V} (h : H l = some (.lst (y :: ys))) (q : Q y (upd H l (.lst ys))) : rPopAt (.ref l) [.int 0] H Q := ⟨l, y :: ys, 0, 0, y, rfl, rfl, h, by decide, by decide, by simp [seqIndex?], rfl, q⟩
theorem setL {p : Addr} {xs : List V} {k : Int} {j : Nat} {v : V} {q : Hp → Prop} (h : H p = some (.lst xs)) (e : ixN xs.length k = some j) (g : q (upd H p (.lst (xs.set j v)))) : rSetL (.ref p) (.int k) v H q := ⟨p, xs, _, j, rfl, rfl, h, e, g⟩
theorem mulW {i j : Int} (a b : Nat) (h0 : 0 ≤ i) (h1 : i < 2 ^ a) (g0 : 0 ≤ j) (g1 : j < 2 ^ b) (ha : 0 < a) (hb : 0 < b) (h : a + b ≤ 1000000) : CMulW i j := by
  refine wide_mul (a := a) (b := b) ?_ ?_ ha hb h
  · have : ((i.natAbs : Nat) : Int) < ((2 ^ a : Nat) : Int) := by rw [Int.natAbs_of_nonneg h0]; simpa using h1
    exact Int.ofNat_lt.mp this
  · have : ((j.natAbs : Nat) : Int) < ((2 ^ b : Nat) : Int) := by rw [Int.natAbs_of_nonneg g0]; simpa using g1
    exact Int.ofNat_lt.mp this
theorem divW {i j : Int} (b : Nat) (h : 0 < j) (h1 : j < 2 ^ b) (hb : 0 < b) (h9 : b ≤ 9000) : CDivW i j := by
  refine wide_div (b := b) h ?_ hb h9
  have : ((j.natAbs : Nat) : Int) < ((2 ^ b : Nat) : Int) := by rw [Int.natAbs_of_nonneg (by omega)]; simpa using h1
  exact Int.ofNat_lt.mp this
theorem get_int {ns : List Int} {i : Nat} {x : V} (hi : (ns.map V.int)[i]? = some x) : ∃ z, x = .int z ∧ ns[i]? = some z ∧ i < ns.length := by
  rw [List.getElem?_map] at hi
  cases e : ns[i]? with
  | none => rw [e] at hi; cases hi
  | some z => rw [e] at hi; exact ⟨z, (Option.some.inj hi).symm, rfl, (List.getElem?_eq_some_iff.mp e).1⟩
end
end HS
namespace HS
open PySem PySem.Spec PyProof.Rows L2
theorem Keep.new' {S : Addr → Prop} {H H0 H1 : Hp} {p : Addr} {o : HO} (h : H0 p = none) (k0 : Keep S H H0) (n : ¬ S p) (k : Keep S H H1) : Keep S H (upd H1 p o) := k.put (k0.free h n)
theorem nS2 {p a b : Addr} (h1 : p ≠ a) (h2 : p ≠ b) : ¬ (p = a ∨ p = b) := fun z => z.elim h1 h2
theorem nS3 {p a b c : Addr} (h1 : p ≠ a) (h2 : p ≠ b) (h3 : p ≠ c) : ¬ (p = a ∨ p = b ∨ p = c) := fun z => z.elim h1 fun z => z.elim h2 h3
end HS
namespace HS
open PySem PySem.Spec PyProof.Rows L2
section
variable {σ : L2.St} {H : Hp} {t u : TS} {n bk ct : L2.St → Hp → Prop} {rt : VK}
theorem pnx (h : n σ H) : Ends.nx ⟨n, rt, bk, ct⟩ σ H := h
theorem pbk (h : bk σ H) : Ends.bk ⟨n, rt, bk, ct⟩ σ H := h
theorem pct (h : ct σ H) : Ends.ct ⟨n, rt, bk, ct⟩ σ H := h
theorem prt {v : V} (h : rt v H) : Ends.rt ⟨n, rt, bk, ct⟩ v H := h
theorem cut (M : L2.St → Hp → Prop) (h : t ⟨M, rt, bk, ct⟩ σ H) (k : ∀ σ' H', M σ' H' → u ⟨n, rt, bk, ct⟩ σ' H') : Evl.tCut t u ⟨n, rt, bk, ct⟩ σ H := ⟨M, h, k⟩
theorem pow_lt {i : Int} {a : Nat} (k : Nat) (h0 : 0 ≤ i) (h : i < 2 ^ a) : 0 ≤ i ^ k ∧ (i ^ k < 2 ^ (a * k) ∨ k = 0) := by
  refine ⟨Int.pow_nonneg h0, ?_⟩
  cases k with
  | zero => exact .inr rfl
  | succ k =>
    refine .inl ?_
    obtain ⟨m, rfl⟩ := Int.eq_ofNat_of_zero_le h0
    have h' : m < 2 ^ a := by have : ((m : Nat) : Int) < ((2 ^ a : Nat) : Int) := by simpa using h
                              exact Int.ofNat_lt.mp this
    have := Nat.pow_lt_pow_left h' (Nat.succ_ne_zero k)
    rw [← Nat.pow_mul] at this
    have z : ((m ^ (k + 1) : Nat) : Int) < ((2 ^ (a * (k + 1)) : Nat) : Int) := Int.ofNat_lt.mpr this
    simpa using z
end
end HS
namespace HS
open PySem PySem.Spec PyProof.Rows L2
section
variable {σ : L2.St} {H : Hp} {Q : VK} {ta tb te : TE} {K : PySem.W.Frag}
theorem szc {n : Nat} {A : Prop} (h : n ≤ 100000) (q : A) : n ≤ sizeLine ∧ A := ⟨szl h, q⟩
theorem szd {n : Nat} {A : Prop} (h : n ≤ 100000) (q : A) : n < sizeLine ∧ A := ⟨sz h, q⟩
theorem wp {σ1 σ2 : L2.St} {vs : List Nat} {A : Prop} (e : wipe σ2 vs = wipe σ1 vs) (q : A) : wipe σ2 vs = wipe σ1 vs ∧ A := ⟨e, q⟩
theorem yes {q : Bool → Hp → Prop} (h : q true H) : tYes σ H q := h
theorem ixI {p : Addr} {i : Int} (ns : List Int) (h : SqL K H p (ns.map V.int)) (h0 : 0 ≤ i) (h1 : i < ns.length) (q : ∀ z, ns[i.toNat]? = some z → z ∈ ns → Q (.int z) H) : rIxL K (.ref p) (.int i) H Q := by
  have hi : i.toNat < ns.length := by omega
  have e : ns[i.toNat]? = some ns[i.toNat] := List.getElem?_eq_getElem hi
  refine ⟨p, ns.map V.int, i, .int ns[i.toNat], rfl, rfl, h, ?_, q _ e (List.getElem_mem hi)⟩
  exact at_of (j := i.toNat) (by omega) (by rw [List.getElem?_map, e]; rfl)
theorem ixV {p : Addr} {i : Int} {xs : List V} (h : SqL K H p xs) (h0 : 0 ≤ i) (h1 : i < xs.length) (q : ∀ v, xs[i.toNat]? = some v → v ∈ xs → Q v H) : rIxL K (.ref p) (.int i) H Q := by
  have hi : i.toNat < xs.length := by omega
  have e : xs[i.toNat]? = some xs[i.toNat] := List.getElem?_eq_getElem hi
  refine ⟨p, xs, i, xs[i.toNat], rfl, rfl, h, ?_, q _ e (List.getElem_mem hi)⟩
  exact at_of (j := i.toNat) (by omega) e
theorem ixVT {p : Addr} {i : Int} {xs : List V} (h : SqT K H p xs) (h0 : 0 ≤ i) (h1 : i < xs.length) (q : ∀ v, xs[i.toNat]? = some v → v ∈ xs → Q v H) : rIxT K (.ref p) (.int i) H Q := by
  have hi : i.toNat < xs.length := by omega
  have e : xs[i.toNat]? = some xs[i.toNat] := List.getElem?_eq_getElem hi
  refine ⟨p, xs, i, xs[i.toNat], rfl, rfl, h, ?_, q _ e (List.getElem_mem hi)⟩
  exact at_of (j := i.toNat) (by omega) e
theorem lc {wi : TI} {g : TG} {tt : TT} {vs : List Nat} (h : wi σ H fun J H1 => ∀ D, H1 D = none → ∃ W : Nat → Nat → Hp → Prop, (∃ m, W 0 m (upd H1 D (.lst []))) ∧ ∀ i m H, W i m H → (J.stop i H ∧ Q (.ref D) H) ∨ (J.go i H ∧ ∃ Nx : Hp → Prop, (∀ H', Nx H' → ∃ m', m' < m ∧ W (i + 1) m' H') ∧ ∀ x H', J.yld i H x H' → g x (wipe σ vs) H' fun σ2 H2 => wipe σ2 vs = wipe σ vs ∧ tt σ2 H2 fun b H3 => if b = true then te σ2 H3 fun y H4 => ∃ acc, H4 D = some (.lst acc) ∧ acc.length < sizeLine ∧ Nx (upd H4 D (.lst (acc ++ [y]))) else Nx H3)) : tLc wi g tt te vs σ H Q := h
theorem rng1 {tl : TA} {R : It → Hp → Prop} (h : tl σ H fun vs H1 => ∃ j : Int, vs = [.int j] ∧ -(2 ^ 62) ≤ j ∧ j < 2 ^ 62 ∧ R (Itr 0 j.toNat) H1) : iRng1 tl σ H R := h
theorem rng2 {tl : TA} {R : It → Hp → Prop} (h : tl σ H fun vs H1 => ∃ i j : Int, vs = [.int i, .int j] ∧ (-(2 ^ 62) ≤ i ∧ i < 2 ^ 62 ∧ -(2 ^ 62) ≤ j ∧ j < 2 ^ 62) ∧ R (Itr i (j - i).toNat) H1) : iRng2 tl σ H R := h
theorem lis {tl : TE} {R : It → Hp → Prop} (h : tl σ H fun x H1 => ∃ a, x = .ref a ∧ (∃ xs, SqL K H1 a xs) ∧ R (Itl K a) H1) : iList K tl σ H R := h
theorem ra {a : Addr} {q : Addr → Prop} (h : q a) : ∃ b, V.ref a = V.ref b ∧ q b := ⟨a, rfl, h⟩
theorem i1e {a : Int} {q : Int → Prop} (h : q a) : ∃ i, [V.int a] = [V.int i] ∧ q i := ⟨a, rfl, h⟩
theorem fr {wi : TI} {g : TG} {tb : TS} {D : Ends} (h : wi σ H fun J H1 => ∃ W : Nat → Nat → L2.St → Hp → Prop, (∃ m, W 0 m σ H1) ∧ ∀ i m σ H, W i m σ H →
    (J.stop i H ∧ D.nx σ H) ∨ (J.go i H ∧ ∃ N : L2.St → Hp → Prop, (∀ σ' H', N σ' H' → ∃ m', m' < m ∧ W (i + 1) m' σ' H') ∧ ∀ x H', J.yld i H x H' → g x σ H' fun σ2 H2 => tb { D with nx := N, ct := N, bk := D.nx } σ2 H2)) : tFor wi g tb D σ H := h
end
end HS
namespace HS
open PySem PySem.Spec PyProof.Rows L2
theorem iteM {c : Bool} {ta tb : TE} {σ : L2.St} {H1 : Hp} {Q : VK} (M : VK) (h : c = true → ∀ Q' : VK, (∀ v H', M v H' → Q' v H') → ta σ H1 Q') (g : c = false → ∀ Q' : VK, (∀ v H', M v H' → Q' v H') → tb σ H1 Q') (k : ∀ v H', M v H' → Q v H') :
    if c = true then ta σ H1 Q else tb σ H1 Q := by
  cases c with
  | true => rw [if_pos rfl]; exact h rfl Q k
  | false => rw [if_neg Bool.false_ne_true]; exact g rfl Q k
/-- ceilings -/
theorem ceil_eq {i j : Int} (hj : 1 ≤ j) : (i + j - 1) / j = i / j + (if 0 < i % j then 1 else 0) := by
  have h0 := Int.emod_nonneg i (by omega : j ≠ 0)
  have h1 := Int.emod_lt_of_pos i (by omega : 0 < j)
  have e := Int.mul_ediv_add_emod i j
  generalize i / j = q at e ⊢
  generalize i % j = r at e h0 h1 ⊢
  subst e
  split
  · rename_i h
    rw [show j * q + r + j - 1 = (r - 1) + j * (q + 1) by rw [Int.mul_add]; omega, Int.add_mul_ediv_left _ _ (by omega), Int.ediv_eq_zero_of_lt (by omega) (by omega)]
    omega
  · rename_i h
    rw [show j * q + r + j - 1 = (j - 1) + j * q by omega, Int.add_mul_ediv_left _ _ (by omega), Int.ediv_eq_zero_of_lt (by omega) (by omega)]
    omega
end HS
namespace HS
open PySem PySem.Spec PyProof.Rows L2
section
variable {σ : L2.St} {H : Hp} {te : TE} {t : TS} {tg ug : TGn} {n bk ct : List V → L2.St → Hp → Prop} {rt : List V → VK} {ys : List V} {Q : VK}
theorem gthen (h : tg ⟨fun ys' σ' H' => ug ⟨n, rt, bk, ct⟩ ys' σ' H', rt, bk, ct⟩ ys σ H) : tGThen tg ug ⟨n, rt, bk, ct⟩ ys σ H := h
theorem g0 (h : n ys σ H) : tG0 ⟨n, rt, bk, ct⟩ ys σ H := h
theorem gpl (h : t ⟨n ys, rt ys, bk ys, ct ys⟩ σ H) : tPlain t ⟨n, rt, bk, ct⟩ ys σ H := h
theorem gyl (h : ys.length < sizeLine ∧ te σ H fun x H1 => n (ys ++ [x]) σ H1) : tGYield te ⟨n, rt, bk, ct⟩ ys σ H := h
theorem lgn {tg : TGen} (h : tg σ H fun out H2 => ∀ p, H2 p = none → Q (.ref p) (upd H2 p (.lst out))) : tListG tg σ H Q := h
theorem calg {sp : SpG} {E : XK} {tl : TA} {q : List V → Hp → Prop} (h : tl σ H fun vs H1 => sp vs H1 q E) : tCallG sp [] E tl σ H q := by
  show tl σ H fun vs H1 => sp (vs ++ []) H1 q E
  simp only [List.append_nil]; exact h
end
end HS
namespace HS
open PySem PySem.Spec PyProof.Rows L2
section
variable {H : Hp} {Q : VK} {K : PySem.W.Frag}
theorem ixZ {p : Addr} {i z : Int} {ns : List Int} (h : SqL K H p (ns.map V.int)) (h0 : 0 ≤ i) (e : ns[i.toNat]? = some z) (q : Q (.int z) H) : rIxL K (.ref p) (.int i) H Q :=
  ⟨p, ns.map V.int, i, .int z, rfl, rfl, h, at_of (j := i.toNat) (by omega) (by rw [List.getElem?_map, e]; rfl), q⟩
theorem cut_to (xs : List V) (n : Nat) : cutV xs none (some (n : Int)) = xs.take n := by
  unfold cutV
  rw [HT.sIx_none, HT.sIx_nat, List.drop_zero, Nat.sub_zero]
  rw [List.take_eq_take_iff]
  omega
theorem cut_from (xs : List V) (n : Nat) : cutV xs (some (n : Int)) none = xs.drop n := by
  unfold cutV
  rw [HT.sIx_none, HT.sIx_nat]
  rw [List.take_of_length_le (by rw [List.length_drop]; omega)]
  by_cases h : n ≤ xs.length
  · rw [Nat.min_eq_left h]
  · rw [Nat.min_eq_right (by omega), List.drop_eq_nil_of_le (Nat.le_refl _), List.drop_eq_nil_of_le (by omega)]
end
end HS
namespace HS
open PySem PySem.Spec PyProof.Rows L2
theorem Keep.any {S : Addr → Prop} {H H1 : Hp} (k : Keep (fun _ => False) H H1) : Keep S H H1 := fun a o e _ => k a o e id
theorem Keep.mono {S T : Addr → Prop} {H H1 : Hp} (k : Keep S H H1) (h : ∀ a, S a → T a) : Keep T H H1 := fun a o e n => k a o e fun z => n (h a z)
end HS
namespace HS
open PySem PySem.Spec PyProof.Rows L2
theorem cut_toI {i : Int} (ls : List Int) (h : 0 ≤ i) : cutV (ls.map V.int) none (some i) = (ls.take i.toNat).map V.int := by
  obtain ⟨n, rfl⟩ := Int.eq_ofNat_of_zero_le h
  rw [cut_to, List.map_take]; simp
theorem cut_fromI {i : Int} (ls : List Int) (h : 0 ≤ i) : cutV (ls.map V.int) (some i) none = (ls.drop i.toNat).map V.int := by
  obtain ⟨n, rfl⟩ := Int.eq_ofNat_of_zero_le h
  rw [cut_from, List.map_drop]; simp
end HS
namespace HS
theorem ifT {c : Bool} {A B : Prop} (e : c = true) (h : A) : if c = true then A else B := by rw [if_pos e]; exact h
theorem ifF {c : Bool} {A B : Prop} (e : c = false) (h : B) : if c = true then A else B := by rw [if_neg (by rw [e]; exact Bool.false_ne_true)]; exact h
end HS
namespace HS
open PySem PySem.Spec PyProof.Rows L2
/-- a new object behind what stands -/
theorem Keep.nw {H H1 : Hp} {p : Addr} {o : HO} (k : Keep (fun _ => False) H H1) (h : H1 p = none) : Keep (fun _ => False) H (upd H1 p o) := k.put (k.free h id)
theorem Keep.nwS {S : Addr → Prop} {H H1 : Hp} {p : Addr} {o : HO} (k : Keep S H H1) (h : H1 p = none) (n : ¬ S p) : Keep S H (upd H1 p o) := k.put (k.free h n)
end HS
namespace HS
theorem nt {A B : Prop} (h : B) : if (!true) = true then A else B := by rw [if_neg (show ¬ ((!true) = true) from Bool.false_ne_true)]; exact h
theorem nf {A B : Prop} (h : A) : if (!false) = true then A else B := by rw [if_pos (show (!false) = true from rfl)]; exact h
end HS
namespace HS
open PySem PySem.Spec PyProof.Rows L2
section
variable {H H' : Hp} {p x : Addr} {o u : HO}
theorem upgs (e : upd H p o = H') : H' p = some o := by rw [← e]; exact upd_same
theorem upgK (e : upd H p o = H') (h : H p = none) : Keep (fun _ => False) H H' := by rw [← e]; exact Keep.new h
end
end HS
/-! Data of ints, lists and tuples, and == of such. -/
namespace HS
open PySem PySem.Spec PyProof.Rows L2
def dInts (ns : List Int) : PyData := .list (ns.map .int)
section
variable {K : PySem.W.Frag} {H : Hp}
theorem dpAll_ints : ∀ ns : List Int, DpAll K H (ns.map V.int) (ns.map .int)
  | [] => .nil
  | n :: r => .cons (.int n) (dpAll_ints r)
theorem dp_ints {a : Addr} {ns : List Int} (h : SqL K H a (ns.map V.int)) : Dp K H (.ref a) (dInts ns) := .lst h (dpAll_ints ns)
theorem lay_ints : ∀ ns : List Int, PyData.canLayAll0 (ns.map .int) = true
  | [] => rfl
  | n :: r => by rw [List.map_cons, PyData.canLayAll0, lay_ints r]; rfl
theorem dep_ints : ∀ ns : List Int, PyData.depthAll (ns.map .int) = 0
  | [] => rfl
  | n :: r => by rw [List.map_cons, PyData.depthAll, dep_ints r]; rfl
theorem sh_ints (ns : List Int) : SeqAt.shaped (dInts ns) = true := by
  unfold SeqAt.shaped dInts
  rw [PyData.canLay0, PyData.depth, lay_ints, dep_ints]; rfl
theorem eqv_int (i j : Int) : PyData.eqv (.int i) (.int j) = decide (i = j) := by
  rw [PyData.eqv]; exact Bool.beq_eq_decide_eq i j
theorem eqvAll_ints : ∀ xs ys : List Int, PyData.eqvAll (xs.map .int) (ys.map .int) = decide (xs = ys)
  | [], [] => rfl
  | [], y :: ys => rfl
  | x :: xs, [] => rfl
  | x :: xs, y :: ys => by
    rw [List.map_cons, List.map_cons, PyData.eqvAll, eqv_int, eqvAll_ints xs ys]
    by_cases h : x = y <;> by_cases g : xs = ys <;> simp [h, g]
theorem eqv_ints (xs ys : List Int) : PyData.eqv (dInts xs) (dInts ys) = decide (xs = ys) := by
  unfold dInts; rw [PyData.eqv]; exact eqvAll_ints xs ys
/-- == and != of two lists of ints -/
theorem eqL {a b : Addr} {xs ys : List Int} {Q : VK} (h1 : SqL K H a (xs.map V.int)) (h2 : SqL K H b (ys.map V.int)) (q : Q (.bl (decide (xs = ys))) H) : rEqD K (.ref a) (.ref b) H Q :=
  ⟨_, _, dp_ints h1, dp_ints h2, sh_ints _, sh_ints _, by rw [eqv_ints]; exact q⟩
theorem neL {a b : Addr} {xs ys : List Int} {Q : VK} (h1 : SqL K H a (xs.map V.int)) (h2 : SqL K H b (ys.map V.int)) (q : Q (.bl (!decide (xs = ys))) H) : rNeD K (.ref a) (.ref b) H Q :=
  ⟨_, _, dp_ints h1, dp_ints h2, sh_ints _, sh_ints _, by rw [eqv_ints]; exact q⟩
end
end HS
/-! Rules told with the written part K by its own letter. -/
namespace HS
open PySem PySem.Spec PyProof.Rows L2
section
variable {X : Cx} (K : PySem.W.Frag)
theorem ixl (h : X.K = K := by rfl) : IxR X (rIxL K) := h ▸ ix_list
theorem ixt (h : X.K = K := by rfl) : IxR X (rIxT K) := h ▸ ix_tup
theorem sll (h : X.K = K := by rfl) : SlR X (rSlL K) := h ▸ sl_list
theorem slt (h : X.K = K := by rfl) : SlR X (rSlT K) := h ▸ sl_tup
theorem kbm {E : Expr} {T : String} {r : V → List V → Hp → VK → Prop} {to : TE} {t : TA} (p : PE X E (tBM X.K T r to t)) (h : X.K = K := by rfl) : PE X E (tBM K T r to t) := h ▸ p
theorem kbm0 {E : Expr} {T : String} {r : V → List V → Hp → VK → Prop} {to : TE} (p : PE X E (tBM0 X.K T r to)) (h : X.K = K := by rfl) : PE X E (tBM0 K T r to) := h ▸ p
theorem kil {tg l : Expr} {tl : TE} (p : PI X tg l (iList X.K tl)) (h : X.K = K := by rfl) : PI X tg l (iList K tl) := h ▸ p
theorem kit {tg l : Expr} {tl : TE} (p : PI X tg l (iTup X.K tl)) (h : X.K = K := by rfl) : PI X tg l (iTup K tl) := h ▸ p
theorem kien {tg l : Expr} {tl : TA} (p : PI X tg l (iEnum X.K tl)) (h : X.K = K := by rfl) : PI X tg l (iEnum K tl) := h ▸ p
theorem kgt {tg : Expr} {n : Nat} {t : TGs} (p : PG X tg (gTup X.K n t)) (h : X.K = K := by rfl) : PG X tg (gTup K n t) := h ▸ p
theorem keq (hu : X.A.units + 64 < cLine) (h : X.K = K := by rfl) : OpR X (compareOp .Eq) (rEqD K) := h ▸ op_eqD hu
theorem kne (hu : X.A.units + 64 < cLine) (h : X.K = K := by rfl) : OpR X (compareOp .NotEq) (rNeD K) := h ▸ op_neD hu
theorem kin (h : X.K = K := by rfl) : OpR X (compareOp .In) (rIn K false) := h ▸ op_in_seq
theorem knin (h : X.K = K := by rfl) : OpR X (compareOp .NotIn) (rIn K true) := h ▸ op_notIn_seq
theorem kcatT (h : X.K = K := by rfl) : OpR X (binaryOp .Add) (rCatT K) := h ▸ op_catT
def rLen : List V → Hp → VK → Prop := fun xs H Q => ∃ p ys, xs = [.ref p] ∧ (SqL K H p ys ∨ SqT K H p ys) ∧ Q (.int ys.length) H
def rLst : List V → Hp → VK → Prop := fun xs H Q => ∃ p ys, xs = [.ref p] ∧ (SqL K H p ys ∨ SqT K H p ys) ∧ ∀ l, H l = none → Q (.ref l) (upd H l (.lst ys))
theorem klen (h : X.K = K := by rfl) : CallR X (.builtin "len") (rLen K) := h ▸ call_len_seq
theorem klst (h : X.K = K := by rfl) : CallR X (.type "list") (rLst K) := h ▸ call_list_of
theorem ksum (hc : X.calm = true) (h : X.K = K := by rfl) : CallR X (.builtin "sum") (rSum K) := h ▸ cr_sum hc
theorem kmax (hc : X.calm = true) (h : X.K = K := by rfl) : CallR X (.builtin "max") (rMax K) := h ▸ cr_max hc
theorem kmin (hc : X.calm = true) (h : X.K = K := by rfl) : CallR X (.builtin "min") (rMin K) := h ▸ cr_min hc
theorem krev {E : Expr} {te : TE} (p : PE X E (tRevL X.K te)) (h : X.K = K := by rfl) : PE X E (tRevL K te) := h ▸ p
/-- the names of a block within a block -/
def relab (scO sc : Scope) : Scope := { scO with names := scO.names.map fun (n, k) => if (k == .free && sc.kind == .function && sc.names.lookup n == some .cell) then (n, .cell) else (n, k) }
/-- a list comprehension within a comprehension's block -/
theorem pe_lcIn {X : Cx} {s0 : Shared} {H0 : Hp} {C0 : Addr} {cl0 : List (Str × Addr)} {fp0 : List Addr} {scO : Scope} {elt tg iter : Expr} {ifs : List Expr} {scope : Scope} {own : List (Str × Nat)} {pos : Pos} {wi : TI} {g : TG} {tt : TT} {te : TE} (hc : X.calm = true) (hN : X.N.Nodup) (hi : PI (X.blk s0 H0 scO (compEnvC scO cl0 C0 X.env) fp0) tg iter wi) (sc : Scope) (hsc : X.env.scope = sc) (ok : BlkOk X.N (relab scO sc) scope own)
    (hg : ∀ (s : Shared) (H : Hp) (C : Addr) (cl : List (Str × Addr)) (fp : List Addr), PG ((X.blk s0 H0 scO (compEnvC scO cl0 C0 X.env) fp0).blk s H scope (compEnvC scope cl C (compEnvC scO cl0 C0 X.env)) fp) tg g) (ht : ∀ (s : Shared) (H : Hp) (C : Addr) (cl : List (Str × Addr)) (fp : List Addr), PTs ((X.blk s0 H0 scO (compEnvC scO cl0 C0 X.env) fp0).blk s H scope (compEnvC scope cl C (compEnvC scO cl0 C0 X.env)) fp) ifs tt)
    (he : ∀ (s : Shared) (H : Hp) (C : Addr) (cl : List (Str × Addr)) (fp : List Addr), PE ((X.blk s0 H0 scO (compEnvC scO cl0 C0 X.env) fp0).blk s H scope (compEnvC scope cl C (compEnvC scO cl0 C0 X.env)) fp) elt te) (hs : ∀ x, foldedSetIterable iter (compEnvC scO cl0 C0 X.env) x = pure x := by intro _; rfl) :
    PE (X.blk s0 H0 scO (compEnvC scO cl0 C0 X.env) fp0) (.ListComp elt [⟨tg, iter, ifs, 0⟩] scope pos) (tLc wi g tt te (own.map (·.2))) :=
  by subst hsc; exact pe_lc (X := X.blk s0 H0 scO (compEnvC scO cl0 C0 X.env) fp0) hc hN hi ok hg ht he hs
end
section
variable {σ : L2.St} {H : Hp} {Q : VK} {te : TE} {K : PySem.W.Frag}
theorem lenL {p : Addr} {ys : List V} (h : SqL K H p ys) (q : Q (.int ys.length) H) : rLen K [.ref p] H Q := ⟨p, ys, rfl, .inl h, q⟩
theorem lenT {p : Addr} {ys : List V} (h : SqT K H p ys) (q : Q (.int ys.length) H) : rLen K [.ref p] H Q := ⟨p, ys, rfl, .inr h, q⟩
theorem sumL {p : Addr} {ns : List Int} (h : SqL K H p (ns.map V.int)) (q : Q (.int ns.sum) H) : rSum K [.ref p] H Q := ⟨p, ns, rfl, h, q⟩
theorem revL (h : te σ H fun x H1 => ∃ a xs, x = .ref a ∧ SqL K H1 a xs ∧ ∀ p, H1 p = none → Q (.ref p) (upd H1 p (.lst xs.reverse))) : tRevL K te σ H Q := h
theorem sl {r : V → Option Int → Option Int → Hp → VK → Prop} {tl th : TO} (h : te σ H fun x H1 => tl σ H1 fun l H2 => th σ H2 fun u H3 => r x l u H3 Q) : tSl r te tl th σ H Q := h
theorem noP {q : Option Int → Hp → Prop} (h : q none H) : tNoPart σ H q := h
theorem part {q : Option Int → Hp → Prop} (h : te σ H fun x H1 => ∃ i, x = .int i ∧ q (some i) H1) : tPart te σ H q := h
theorem ie {a : Int} {q : Int → Prop} (h : q a) : ∃ i, V.int a = V.int i ∧ q i := ⟨a, rfl, h⟩
theorem slLs {p : Addr} {xs : List V} {lo hi : Option Int} (h : SqL K H p xs) (q : ∀ p, H p = none → Q (.ref p) (upd H p (.lst (cutV xs lo hi)))) : rSlL K (.ref p) lo hi H Q := ⟨p, xs, rfl, h, q⟩
theorem gtup {n : Nat} {t : TGs} {a : Addr} {xs : List V} {q : L2.St → Hp → Prop} (h : SqT K H a xs) (e : xs.length = n) (k : t xs σ H q) : gTup K n t (.ref a) σ H q := ⟨a, xs, rfl, h, e, k⟩
theorem gcons {t : TG} {u : TGs} {v : V} {r : List V} {q : L2.St → Hp → Prop} (h : t v σ H fun σ' H' => u r σ' H' q) : gCons t u (v :: r) σ H q := ⟨v, r, rfl, h⟩
theorem gnil {q : L2.St → Hp → Prop} (h : q σ H) : gNil [] σ H q := ⟨rfl, h⟩
theorem itup {R : It → Hp → Prop} (h : te σ H fun x H1 => ∃ a, x = .ref a ∧ (∃ xs, SqT K H1 a xs) ∧ R (Itt K a) H1) : iTup K te σ H R := h
theorem ienu {tl : TA} {R : It → Hp → Prop} (h : tl σ H fun vs H1 => ∃ a xs, vs = [.ref a] ∧ SqL K H1 a xs ∧ R (Ite K a) H1) : iEnum K tl σ H R := h
theorem cat {l b : Addr} {xs zs : List V} (h1 : H l = some (.lst xs)) (h2 : H b = some (.lst zs)) (q : xs.length + zs.length ≤ sizeLine ∧ ∀ p, H p = none → Q (.ref p) (upd H p (.lst (xs ++ zs)))) : rCat (.ref l) (.ref b) H Q := ⟨l, b, xs, zs, rfl, rfl, h1, h2, q⟩
theorem ext {l b : Addr} {xs zs : List V} (h1 : H l = some (.lst xs)) (h2 : H b = some (.lst zs)) (q : xs.length + zs.length ≤ sizeLine ∧ Q .non (upd H l (.lst (xs ++ zs)))) : rExtend (.ref l) [.ref b] H Q := ⟨l, b, xs, zs, rfl, rfl, h1, h2, q⟩
end
end HS
/-! Lists of new pairs of ints, and == of such; ranges by steps. -/
namespace HS
open PySem PySem.Spec PyProof.Rows L2
/-- the refs of vs are tuples of these pairs -/
def Prs (H : Hp) : List V → List (Int × Int) → Prop
  | [], [] => True
  | v :: vs, p :: ps => (∃ t, v = .ref t ∧ H t = some (.tup [.int p.1, .int p.2])) ∧ Prs H vs ps
  | _, _ => False
theorem Prs.keep {S : Addr → Prop} {H H' : Hp} (k : Keep S H H') : ∀ {vs : List V} {ps : List (Int × Int)}, Prs H vs ps → (∀ v ∈ vs, ∀ t, v = .ref t → ¬ S t) → Prs H' vs ps
  | [], [], h, _ => h
  | _ :: _, _ :: _, ⟨⟨t, e, o⟩, h⟩, n => ⟨⟨t, e, k t _ o (n _ List.mem_cons_self t e)⟩, h.keep k fun v hv => n v (List.mem_cons_of_mem _ hv)⟩
theorem Prs.app {H : Hp} : ∀ {vs ws : List V} {ps qs : List (Int × Int)}, Prs H vs ps → Prs H ws qs → Prs H (vs ++ ws) (ps ++ qs)
  | [], _, [], _, _, g => g
  | _ :: _, _, _ :: _, _, ⟨a, h⟩, g => ⟨a, h.app g⟩
theorem Prs.len {H : Hp} : ∀ {vs : List V} {ps : List (Int × Int)}, Prs H vs ps → vs.length = ps.length
  | [], [], _ => rfl
  | _ :: _, _ :: _, ⟨_, h⟩ => by rw [List.length_cons, List.length_cons, h.len]
def dPr (p : Int × Int) : PyData := .tuple [.int p.1, .int p.2]
def dPrs (ps : List (Int × Int)) : PyData := .list (ps.map dPr)
section
variable {K : PySem.W.Frag} {H : Hp}
theorem dpAll_prs : ∀ {vs : List V} {ps : List (Int × Int)}, Prs H vs ps → DpAll K H vs (ps.map dPr)
  | [], [], _ => .nil
  | _ :: _, p :: _, ⟨⟨t, e, o⟩, h⟩ => .cons (by rw [e]; exact .tup (st o) (.cons (.int p.1) (.cons (.int p.2) .nil))) (dpAll_prs h)
theorem lay_prs : ∀ ps : List (Int × Int), PyData.canLayAll0 (ps.map dPr) = true
  | [] => rfl
  | p :: r => by rw [List.map_cons, PyData.canLayAll0, lay_prs r]; rfl
theorem dep_prs : ∀ ps : List (Int × Int), PyData.depthAll (ps.map dPr) ≤ 2
  | [] => by simp [PyData.depthAll]
  | p :: r => by
    have h := dep_prs r
    have h2 : (dPr p).depth ≤ 2 := by simp [dPr, PyData.depth, PyData.depthAll]
    rw [List.map_cons, PyData.depthAll]; omega
theorem sh_prs (ps : List (Int × Int)) : SeqAt.shaped (dPrs ps) = true := by
  have h1 := dep_prs ps
  have h2 : PyData.depth (dPrs ps) ≤ 64 := by unfold dPrs; rw [PyData.depth]; omega
  show (PyData.canLay0 (dPrs ps) && decide (PyData.depth (dPrs ps) ≤ 64)) = true
  rw [Bool.and_eq_true]
  exact ⟨by unfold dPrs; rw [PyData.canLay0]; exact lay_prs ps, decide_eq_true h2⟩
theorem eqv_pr (p q : Int × Int) : PyData.eqv (dPr p) (dPr q) = decide (p = q) := by
  unfold dPr
  rw [PyData.eqv, PyData.eqvAll, PyData.eqvAll, PyData.eqvAll, eqv_int, eqv_int]
  obtain ⟨a, b⟩ := p
  obtain ⟨c, d⟩ := q
  by_cases h : a = c <;> by_cases g : b = d <;> simp [h, g]
theorem eqvAll_prs : ∀ xs ys : List (Int × Int), PyData.eqvAll (xs.map dPr) (ys.map dPr) = decide (xs = ys)
  | [], [] => rfl
  | [], y :: ys => rfl
  | x :: xs, [] => rfl
  | x :: xs, y :: ys => by
    rw [List.map_cons, List.map_cons, PyData.eqvAll, eqv_pr, eqvAll_prs xs ys]
    by_cases h : x = y <;> by_cases g : xs = ys <;> simp [h, g]
/-- == of two lists of pairs of ints -/
theorem eqP {a b : Addr} {vs ws : List V} {xs ys : List (Int × Int)} {Q : VK} (h1 : SqL K H a vs) (g1 : Prs H vs xs) (h2 : SqL K H b ws) (g2 : Prs H ws ys) (q : Q (.bl (decide (xs = ys))) H) : rEqD K (.ref a) (.ref b) H Q := by
  refine ⟨dPrs xs, dPrs ys, .lst h1 (dpAll_prs g1), .lst h2 (dpAll_prs g2), sh_prs _, sh_prs _, ?_⟩
  rw [show PyData.eqv (dPrs xs) (dPrs ys) = decide (xs = ys) by unfold dPrs; rw [PyData.eqv]; exact eqvAll_prs xs ys]
  exact q
end
theorem RgC.up {j c : Int} (hc : 1 ≤ c) (hc2 : c < 2 ^ 30) (h0 : 0 ≤ j) (h1 : j < 2 ^ 61) : RgC 0 j c ((j + c - 1) / c).toNat := by
  have hn : 0 ≤ (j + c - 1) / c := Int.ediv_nonneg (by omega) (by omega)
  have e : Builtin.Range.rangeSize 0 j c = (j + c - 1) / c := by
    unfold Builtin.Range.rangeSize
    rw [if_pos (by omega)]
    split
    · rw [show j + c - 1 = (j - 0 - 1) + c * 1 by omega, Int.add_mul_ediv_left _ _ (by omega)]
    · rw [show j = 0 by omega, Int.ediv_eq_zero_of_lt (by omega) (by omega)]
  have hl : (j + c - 1) / c ≤ j + c := Int.le_trans (Int.ediv_le_self _ (by omega)) (by omega)
  refine ⟨by omega, by omega, ?_, by rw [e]; omega⟩
  unfold Builtin.Range.small
  rw [e]
  simp only [Builtin.Range.rangeFitsLong, Bool.and_eq_true, Bool.or_eq_true, decide_eq_true_eq, beq_iff_eq]
  rw [if_pos (show c > 0 by omega)]
  simp only [Bool.and_eq_true, decide_eq_true_eq]
  omega
end HS
namespace HS
open PySem PySem.Spec PyProof.Rows L2
section
variable {σ : L2.St} {H : Hp}
theorem rng3 {tl : TA} {R : It → Hp → Prop} (h : tl σ H fun vs H1 => ∃ (i j c : Int) (n : Nat), vs = [.int i, .int j, .int c] ∧ RgC i j c n ∧ R (Itc i c n) H1) : iRng3 tl σ H R := h
end
end HS
namespace HS
open PySem PySem.Spec PyProof.Rows L2
theorem Prs.new {H : Hp} {p : Addr} {o : HO} (hp : H p = none) {vs : List V} {ps : List (Int × Int)} (h : Prs H vs ps) : Prs (upd H p o) vs ps :=
  h.keep (S := fun _ => False) (Keep.new hp) fun _ _ _ _ z => z
theorem Prs.same {H H' : Hp} {vs : List V} {ps : List (Int × Int)} (h : Prs H vs ps) (k : Keep (fun _ => False) H H') : Prs H' vs ps :=
  h.keep (S := fun _ => False) k fun _ _ _ _ z => z
theorem Prs.lst {H : Hp} {L : Addr} {ws : List V} (hL : H L = some (.lst ws)) : ∀ {vs : List V} {ps : List (Int × Int)}, Prs H vs ps → ∀ v ∈ vs, ∀ t, v = .ref t → t ≠ L
  | [], [], _, _, hv, _, _ => absurd hv List.not_mem_nil
  | _ :: _, _ :: _, ⟨⟨t', e', o'⟩, h⟩, v, hv, t, e => by
    rcases List.mem_cons.mp hv with hv | hv
    · subst hv
      rw [e'] at e
      have := V.ref.inj e
      subst this
      intro z
      rw [z, hL] at o'
      cases o'
    · exact h.lst hL v hv t e
theorem Prs.put {H : Hp} {L : Addr} {ws : List V} {o : HO} (hL : H L = some (.lst ws)) {vs : List V} {ps : List (Int × Int)} (h : Prs H vs ps) : Prs (upd H L o) vs ps :=
  h.keep (S := fun a => a = L) (Keep.at Keep.refl rfl) (h.lst hL)
theorem Prs.snoc {H : Hp} {vs : List V} {ps : List (Int × Int)} {t : Addr} {a b : Int} (h : Prs H vs ps) (e : H t = some (.tup [.int a, .int b])) : Prs H (vs ++ [.ref t]) (ps ++ [(a, b)]) :=
  h.app ⟨⟨t, rfl, e⟩, trivial⟩
end HS
/-! Exceptions of own classes as values: made, asked, read (own rules over HandS). -/
namespace HS
open PySem PySem.Spec PyProof.Rows L2
/-- the j-th row of a class's block -/
def inS (s : Stmt) (j : Nat) : Stmt := match s with
  | .ClassDef _ _ _ body _ _ _ _ _ _ _ => body.getD j (.Pass ⟨0, 0, 0, 0⟩)
  | s => s
/-- an own exception that stands in the heap, with its fields -/
def Exv (H : Hp) (a C : Addr) (fs : List (Str × V)) : Prop := ∃ d, H a = some (exo a C (some d)) ∧ H d = some (exd d fs)
def rIsV (K : PySem.W.Frag) : List V → Hp → VK → Prop := fun xs H Q => ∃ (a D : Addr) (fs : List (Str × V)) (c : V) (cv : Value) (b : Bool), xs = [.ref a, c] ∧ ExcC K D ∧ Exv H a D fs ∧ ClsV c cv ∧ PySem.W.kitOne K (.ref D) cv = some b ∧ Q (.bl b) H
theorem call_isV {X : Cx} : CallR X (.builtin "isinstance") (rIsV X.K) := by
  intro pins s σ H xs us Q I r hw
  obtain ⟨a, D, fs, c, cv, b, e0, T, ⟨d, ea, ed⟩, hcv, hb, q⟩ := hw
  subst e0
  match us, r with
  | [_, _], .cons rx (.cons rt .nil) =>
    cases rx
    have e1 := hcv.eq rt
    subst e1
    obtain ⟨t1, ho⟩ := exo_at I.hok ea
    obtain ⟨mA, hns, _⟩ := exd_at I.hok ed
    obtain ⟨od, hod, _⟩ := lookIn_ns hns
    obtain ⟨cd, hcd, _⟩ := PySem.W.any_some T.hd
    have here : PySem.W.InstAt s.heap a _ D (some od) := ⟨ho, rfl, rfl, hod⟩
    exact PySem.W.kia_one (PySem.W.kitx_exc (by rw [hcd]; rfl) T.hg T.hk T.hs T.ha T.hn T.ht T.hm) I.kIn here hb (fun z => nomatch z) fun tk => ⟨.bl b, H, I.kept (t' := tk) fun _ _ z => z, rfl, q⟩
/-- e.f of such an exception -/
def tFldV (K : PySem.W.Frag) (f : Str) (te : TE) : TE := fun σ H Q => te σ H fun x H1 => ∃ (a C : Addr) (fs : List (Str × V)) (v : V), x = .ref a ∧ XfC K C ∧ PySem.W.findIn K (.ref C) f = some none ∧ Exv H1 a C fs ∧ fs.lookup f = some v ∧ Q v H1
theorem pe_fldV {X : Cx} {e : Expr} {te : TE} {pos : Pos} {f : Str} (he : PE X e te) (hb : attributeBase e f X.env (eval e X.env) = eval e X.env := by rfl) : PE X (.Attribute e f pos) (tFldV X.K f te) := by
  refine ⟨fun pins s σ H Q I hw => attr_of hb (thn (he.run pins s σ H _ I hw) fun u s1 ⟨x, H1, I1, rx, a, C, fs, v, e0, T, hno, ⟨d, ea, ed⟩, l, q⟩ => ?_)⟩
  subst e0
  cases rx
  obtain ⟨t1, ho⟩ := exo_at I1.hok ea
  obtain ⟨mA, hns, hr⟩ := exd_at I1.hok ed
  obtain ⟨od, hod, hl⟩ := lookIn_ns hns
  obtain ⟨w, hw, rw'⟩ := RelO.some_of (v := v) (o := mA f) (by rw [← l]; exact hr f)
  have here : PySem.W.InstAt s1.heap a _ C (some od) := ⟨ho, rfl, rfl, hod⟩
  exact HandSPX.exc_get I1.kIn here T.ga T.gg T.exC (PySem.W.findObj_own T.hdC hno rfl (by rw [hl, hw])) (handed_of rw') ⟨v, H1, I1.tok _, rw', q⟩
/-- C(e, ..) as a value -/
def tNewV (C : Addr) (sp : Sp) (ta : TA) : TE := fun σ H Q => ta σ H fun vs H1 => vs.length ≤ 1000 ∧ ∀ a, H1 a = none → sp (.ref a :: vs) (upd H1 a (exo a C none)) (fun v H2 => v = .non ∧ Q (.ref a) H2) (fun _ _ _ => False)
section
variable {X : Cx} {CX : CXT} {x : Str} {C fI : Addr} {k : Nat} {fd : FuncData} {ps : List Str} {sp : Sp} {e : Expr} {es : List Expr} {ta : TA} {p pos : Pos}
theorem pe_newV (T : OexC X.K C) (iC : PySem.W.findIn X.K (.ref C) "__init__" = some (some (.ref fI))) (tI : PySem.W.typeIn X.K (.ref fI) = some (.type "function"))
    (F1 : FnOk X.prog X.w X.K X.mg X.base CX k fI fd ps sp) (hr : Room (k + 1) X.A) (hb : Binds X.K fd ps []) (hx : Passes CX X (fun _ _ _ => False)) (hg : Gl X x) (hm : X.mg x = some (.ref C)) (ha : PA X (e :: es) ta)
    (hdb : (x == ("__debug__" : Str)) = false := by decide) (he : starEach (e :: es) X.env = (false, eval e X.env) :: starEach es X.env := by rfl) (hpl : (backTo pos (starEach es X.env)).any (·.1) = false := by rfl) :
    PE X (.Call (.Name x p) (e :: es) [] pos) (tNewV C sp ta) := by
  refine ⟨fun pins s σ H Q I hw => wpAny_Call_Name_kw (ld_glob I hg hm ?_ hdb)⟩
  obtain ⟨nm, qn, N, bs, bm, sn, sub, ab, col, dd, k0, k1, k2, k3, k5, hC, hbm⟩ := T.cls
  refine PySem.W.callWith_K (h₀ := X.base) I.ok.mod.kin T.kC (thn (ha.run pos pins s σ H _ I hw) fun us s1 ⟨vs, H1, I1, r1, hz, q1⟩ => ⟨I1.kIn, ?_⟩) he hpl
  show wpAny _ _ (call (.ref C) us) _ _ _
  obtain ⟨hp, g, dr, tk, os⟩ := s1
  have le1 : hp.objs.size ≤ hp.objs.size + 1 := by omega
  have kept : ∀ b o, hp.get? b = some o → ((hp.push (PySem.W.kdv_tup us)).push (PySem.HandSPX.excO C hp.objs.size)).get? b = some o := fun _ _ z => Heap.get?_push_of_some _ (Heap.get?_push_of_some _ z)
  have at1 : ((hp.push (PySem.W.kdv_tup us)).push (PySem.HandSPX.excO C hp.objs.size)).get? (hp.objs.size + 1) = some (PySem.HandSPX.excO C hp.objs.size) := by heap_get
  have J : Inv X pins σ (upd H1 (hp.objs.size + 1) (exo (hp.objs.size + 1) C none)) ⟨(hp.push (PySem.W.kdv_tup us)).push (PySem.HandSPX.excO C hp.objs.size), g, dr, tk, os⟩ := I1.laid (t' := tk) kept le1 (exo_ok at1)
  have q2 := q1 (hp.objs.size + 1) (I1.hok.fresh le1)
  have r2 : Vals (V.ref (hp.objs.size + 1) :: vs) (Value.ref (hp.objs.size + 1) :: us) := .cons rfl r1
  have len2 : (Value.ref (hp.objs.size + 1) :: us).length = ps.length := r2.length.symm.trans (F1.len _ _ _ _ q2)
  have small : us.length ≤ sizeLine := by have := Paired.length r1; rw [sizeLine_eq]; omega
  have bnd := hb _ (Value.ref (hp.objs.size + 1) :: us) J.kIn (by simpa using len2)
  refine wpAny_call (PySem.HandSPX.call_own F.excBase_ValueError (fun Y => PySem.HandSPX.refsVE_contains Y bm hbm) (I1.kIn _ _ hC) (PySem.W.looks_findIn I1.kIn iC) (fun self => PySem.W.bind_fn I1.kIn self tI) small
    (codeAny_mono (F1.run _ X.stack _ _ ⟨Value.ref (hp.objs.size + 1) :: us, []⟩ _ _ _ _ (hr.make C us []) (J.env0.make C us []) bnd (by simpa using r2) q2) fun r s' back => ?_))
  match r, back with
  | .error er, back => exact hx pins σ _ _ er s' J back
  | .ok (.ret u), back =>
    obtain ⟨v, H', J', rv, ev, q3⟩ := J.after back
    subst ev
    exact ⟨rv, ⟨V.ref (hp.objs.size + 1), H', J', rfl, q3⟩⟩
end
section
variable {σ : L2.St} {H : Hp} {Q : VK} {te to : TE} {ta : TA} {K : PySem.W.Frag} {n bk ct : L2.St → Hp → Prop} {rt : VK} {f : Str} {C : Addr} {sp : Sp}
theorem ost (h : te σ H fun y H1 => to σ H1 fun x H2 => ∃ a C : Addr, x = .ref a ∧ OexC K C ∧ PySem.W.findIn K (.ref C) f = some none ∧
  ((H2 a = some (exo a C none) ∧ ∀ dx, H2 dx = none → dx ≠ a → n σ (upd (upd H2 dx (exd dx [(f, y)])) a (exo a C (some dx)))) ∨
    ∃ (dx : Addr) (fs : List (Str × V)), H2 a = some (exo a C (some dx)) ∧ H2 dx = some (exd dx fs) ∧ fs.length ≤ 900 ∧ n σ (upd H2 dx (exd dx ((f, y) :: fs))))) : tOst K f to te ⟨n, rt, bk, ct⟩ σ H := h
theorem fldV (h : te σ H fun x H1 => ∃ (a C : Addr) (fs : List (Str × V)) (v : V), x = .ref a ∧ XfC K C ∧ PySem.W.findIn K (.ref C) f = some none ∧ Exv H1 a C fs ∧ fs.lookup f = some v ∧ Q v H1) : tFldV K f te σ H Q := h
theorem newV (h : ta σ H fun vs H1 => vs.length ≤ 1000 ∧ ∀ a, H1 a = none → sp (.ref a :: vs) (upd H1 a (exo a C none)) (fun v H2 => v = .non ∧ Q (.ref a) H2) (fun _ _ _ => False)) : tNewV C sp ta σ H Q := h
end
end HS
namespace HS
open PySem PySem.Spec PyProof.Rows L2
/-- the refs of vs are tuples of these two values -/
def PrV (H : Hp) : List V → List (V × V) → Prop
  | [], [] => True
  | v :: vs, p :: ps => (∃ t, v = .ref t ∧ H t = some (.tup [p.1, p.2])) ∧ PrV H vs ps
  | _, _ => False
theorem PrV.keep {S : Addr → Prop} {H H' : Hp} (k : Keep S H H') : ∀ {vs : List V} {ps : List (V × V)}, PrV H vs ps → (∀ v ∈ vs, ∀ t, v = .ref t → ¬ S t) → PrV H' vs ps
  | [], [], h, _ => h
  | _ :: _, _ :: _, ⟨⟨t, e, o⟩, h⟩, n => ⟨⟨t, e, k t _ o (n _ List.mem_cons_self t e)⟩, h.keep k fun v hv => n v (List.mem_cons_of_mem _ hv)⟩
theorem PrV.same {H H' : Hp} {vs : List V} {ps : List (V × V)} (h : PrV H vs ps) (k : Keep (fun _ => False) H H') : PrV H' vs ps :=
  h.keep k fun _ _ _ _ z => z
theorem PrV.len {H : Hp} : ∀ {vs : List V} {ps : List (V × V)}, PrV H vs ps → vs.length = ps.length
  | [], [], _ => rfl
  | _ :: _, _ :: _, ⟨_, h⟩ => by rw [List.length_cons, List.length_cons, h.len]
theorem PrV.at {H : Hp} : ∀ {vs : List V} {ps : List (V × V)} {i : Nat} {v : V}, PrV H vs ps → vs[i]? = some v → ∃ t p, v = .ref t ∧ ps[i]? = some p ∧ H t = some (.tup [p.1, p.2])
  | [], [], i, _, _, e => by cases i <;> cases e
  | x :: _, p :: _, 0, v, ⟨⟨t, e', o⟩, _⟩, e => ⟨t, p, by rw [← Option.some.inj e]; exact e', rfl, o⟩
  | _ :: vs, _ :: ps, i + 1, v, ⟨_, h⟩, e => h.at (i := i) (by rw [List.getElem?_cons_succ] at e; exact e)
end HS
namespace HS
open PySem PySem.Spec PyProof.Rows L2
theorem kisV {X : Cx} (K : PySem.W.Frag) (h : X.K = K := by rfl) : CallR X (.builtin "isinstance") (rIsV K) := h ▸ call_isV
theorem kisi {X : Cx} (K : PySem.W.Frag) (h : X.K = K := by rfl) : CallR X (.builtin "isinstance") (rIsi K) := h ▸ call_isi
section
variable {K : PySem.W.Frag} {H H' : Hp} {Q : VK} {a D C p : Addr} {fs : List (Str × V)} {b : Bool} {o : HO}
theorem Exv.same (h : Exv H a C fs) (k : Keep (fun _ => False) H H') : Exv H' a C fs := by
  obtain ⟨d, e1, e2⟩ := h
  exact ⟨d, k _ _ e1 id, k _ _ e2 id⟩
theorem Exv.new (h : Exv H a C fs) (hp : H p = none) : Exv (upd H p o) a C fs := h.same (Keep.new hp)
theorem isV (T : ExcC K D) (he : Exv H a D fs) (hq : PySem.W.kitOne K (.ref D) (.ref C) = some b) (q : Q (.bl b) H) : rIsV K [.ref a, .ref C] H Q := ⟨a, D, fs, _, _, b, rfl, T, he, .own C, hq, q⟩
theorem isVt {n : String} (T : ExcC K D) (he : Exv H a D fs) (hq : PySem.W.kitOne K (.ref D) (.type n) = some b) (q : Q (.bl b) H) : rIsV K [.ref a, .ty n] H Q := ⟨a, D, fs, _, _, b, rfl, T, he, .ty n, hq, q⟩
end
end HS
namespace HS
open PySem PySem.Spec PyProof.Rows L2
theorem PrV.app {H : Hp} : ∀ {vs ws : List V} {ps qs : List (V × V)}, PrV H vs ps → PrV H ws qs → PrV H (vs ++ ws) (ps ++ qs)
  | [], _, [], _, _, g => g
  | _ :: _, _, _ :: _, _, ⟨a, h⟩, g => ⟨a, h.app g⟩
theorem PrV.new {H : Hp} {p : Addr} {o : HO} {vs : List V} {ps : List (V × V)} (h : PrV H vs ps) (hp : H p = none) : PrV (upd H p o) vs ps := h.same (Keep.new hp)
section
variable {H : Hp} {t0 t1 l : Addr} {x0 y0 x1 y1 : V}
theorem pair2 (h0 : H t0 = none) (h1 : upd H t0 (.tup [x0, y0]) t1 = none) (h2 : upd (upd H t0 (.tup [x0, y0])) t1 (.tup [x1, y1]) l = none) :
    ∃ H1, upd (upd (upd H t0 (.tup [x0, y0])) t1 (.tup [x1, y1])) l (.lst [.ref t0, .ref t1]) = H1 ∧ Keep (fun _ => False) H H1 ∧ PrV H1 [.ref t0, .ref t1] [(x0, y0), (x1, y1)] ∧ H1 l = some (.lst [.ref t0, .ref t1]) := by
  have n1 : t0 ≠ t1 := ne_of_none upd_same h1
  have e0 : upd (upd H t0 (.tup [x0, y0])) t1 (.tup [x1, y1]) t0 = some (.tup [x0, y0]) := by rw [upd_ne n1]; exact upd_same
  have e1 : upd (upd H t0 (.tup [x0, y0])) t1 (.tup [x1, y1]) t1 = some (.tup [x1, y1]) := upd_same
  refine ⟨_, rfl, (Keep.new h0).trans ((Keep.new h1).trans (Keep.new h2)), ⟨⟨t0, rfl, ?_⟩, ⟨t1, rfl, ?_⟩, trivial⟩, upd_same⟩
  · rw [upd_ne (ne_of_none e0 h2)]; exact e0
  · rw [upd_ne (ne_of_none e1 h2)]; exact e1
theorem pair1 (h0 : H t0 = none) (h2 : upd H t0 (.tup [x0, y0]) l = none) :
    ∃ H1, upd (upd H t0 (.tup [x0, y0])) l (.lst [.ref t0]) = H1 ∧ Keep (fun _ => False) H H1 ∧ PrV H1 [.ref t0] [(x0, y0)] ∧ H1 l = some (.lst [.ref t0]) := by
  refine ⟨_, rfl, (Keep.new h0).trans (Keep.new h2), ⟨⟨t0, rfl, ?_⟩, trivial⟩, upd_same⟩
  rw [upd_ne (ne_of_none upd_same h2)]; exact upd_same
end
end HS
namespace HS
open PySem PySem.Spec PyProof.Rows L2
theorem Keep.over {H H' : Hp} {a : Addr} {o : HO} (k : Keep (fun x => x = a) (upd H a o) H') (h : H a = none) : Keep (fun _ => False) H H' := fun p u e _ => by
  have n := ne_of_none e h
  exact k p u (by rw [upd_ne n]; exact e) n
end HS
namespace HS
open PySem PySem.Spec PyProof.Rows L2
/-- the same by the law's own look: leaves, lists and tuples of such -/
inductive SmV (K : PySem.W.Frag) (H : Hp) : Nat → V → V → Prop
  | non {n : Nat} : SmV K H n .non .non
  | bl {n : Nat} (b : Bool) : SmV K H n (.bl b) (.bl b)
  | int {n : Nat} (i : Int) : SmV K H n (.int i) (.int i)
  | str {n : Nat} (x : Str) : SmV K H n (.str x) (.str x)
  | lst {n : Nat} {a b : Addr} {xs ys : List V} : H a = some (.lst xs) → H b = some (.lst ys) → xs.length = ys.length → xs.length ≤ 1000 → (∀ (i : Nat) (x y : V), xs[i]? = some x → ys[i]? = some y → SmV K H n x y) → SmV K H (n + 1) (.ref a) (.ref b)
  | tup {n : Nat} {a b : Addr} {xs ys : List V} : H a = some (.tup xs) → H b = some (.tup ys) → xs.length = ys.length → xs.length ≤ 1000 → (∀ (i : Nat) (x y : V), xs[i]? = some x → ys[i]? = some y → SmV K H n x y) → SmV K H (n + 1) (.ref a) (.ref b)
theorem SmV.same {K : PySem.W.Frag} {H H' : Hp} (k : Keep (fun _ => False) H H') : ∀ {n : Nat} {x y : V}, SmV K H n x y → SmV K H' n x y
  | _, _, _, .non => .non
  | _, _, _, .bl b => .bl b
  | _, _, _, .int i => .int i
  | _, _, _, .str x => .str x
  | _, _, _, .lst h1 h2 h3 h4 h => .lst (k _ _ h1 id) (k _ _ h2 id) h3 h4 fun i x y e1 e2 => (h i x y e1 e2).same k
  | _, _, _, .tup h1 h2 h3 h4 h => .tup (k _ _ h1 id) (k _ _ h2 id) h3 h4 fun i x y e1 e2 => (h i x y e1 e2).same k
/-- x[i] of a list or a tuple -/
def rIxA (K : PySem.W.Frag) : R2 := fun x y H Q => rIxL K x y H Q ∨ rIxT K x y H Q
theorem ixa {X : Cx} (K : PySem.W.Frag) (h : X.K = K := by rfl) : IxR X (rIxA K) := fun value slice pins s σ H x y v u Q I rx ry r =>
  r.elim (fun r => ixl K h value slice pins s σ H x y v u Q I rx ry r) fun r => ixt K h value slice pins s σ H x y v u Q I rx ry r
section
variable {K : PySem.W.Frag} {H : Hp} {Q : VK}
theorem isi {x : V} {m n : String} (b : Bool) (ty : TyX K H x (.type m)) (hq : kitB m n = some b) (q : Q (.bl b) H) : rIsi K [x, .ty n] H Q := ⟨x, _, _, _, b, rfl, .ty n, ty, kit_ty hq, q⟩
theorem isN {x : V} (q : Q (.bl (decide (x = .non))) H) : (fun x y H Q => y = V.non ∧ Q (.bl (decide (x = .non))) H : R2) x .non H Q := ⟨rfl, q⟩
theorem eqS {x y : V} (hs : scal x y = true) (e : x = y) (q : Q (.bl true) H) : rEq x y H Q := ⟨hs, by rw [decide_eq_true e]; exact q⟩
theorem neB {b c : Bool} (q : Q (.bl (!decide (b = c))) H) : rNe (.bl b) (.bl c) H Q := ⟨rfl, by
  have e : decide (V.bl b = V.bl c) = decide (b = c) := by cases b <;> cases c <;> rfl
  rw [e]; exact q⟩
theorem kb_bb : kitB "bool" "bool" = some true := by decide +kernel
theorem kb_ib : kitB "int" "bool" = some false := by decide +kernel
theorem kb_ii : kitB "int" "int" = some true := by decide +kernel
theorem kb_sb : kitB "str" "bool" = some false := by decide +kernel
theorem kb_si : kitB "str" "int" = some false := by decide +kernel
theorem kb_ss : kitB "str" "str" = some true := by decide +kernel
theorem kb_lb : kitB "list" "bool" = some false := by decide +kernel
theorem kb_li : kitB "list" "int" = some false := by decide +kernel
theorem kb_ls : kitB "list" "str" = some false := by decide +kernel
theorem kb_ll : kitB "list" "list" = some true := by decide +kernel
theorem kb_lt : kitB "list" "tuple" = some false := by decide +kernel
theorem kb_tb : kitB "tuple" "bool" = some false := by decide +kernel
theorem kb_ti : kitB "tuple" "int" = some false := by decide +kernel
theorem kb_ts : kitB "tuple" "str" = some false := by decide +kernel
theorem kb_tl : kitB "tuple" "list" = some false := by decide +kernel
theorem kb_tt : kitB "tuple" "tuple" = some true := by decide +kernel
end
end HS
/-! An own exception class called with keywords. -/
namespace PySem
namespace HSK
open HandSPX Builtin Builtin.ObjectAttr
section
variable {prog : Program} {w : World} {A : Around} {E : Value → Shared → Prop} {R : Result → Shared → Prop} {h : Heap} {g : Array GenState} {d : Drawn} {t : Nat} {os : OsState} {kw : List (Str × Value)} {fI : Addr}
variable {nm q : Str} {C N : Addr} {bs bm bmB : List Value} {hdct : Bool} {sn : List Str} {sub : List Value} {ab : Bool} {col : Option Bool} {dd : Option Addr} {k0 k1 k2 k3 k5 : Option Value} {B newId initId : String}
theorem kw_check_new {M : Model} (F : ExcBaseFacts B newId initId bmB) (hT : ∀ X : String, bm.contains (.type X) = bmB.contains (.type X)) {Q : Unit → Shared → Prop} (hC : h.get? C = some (excClassObj nm q C N bs bm hdct sn sub ab col dd k0 k1 k2 k3 k5 newId)) (z : Q () ⟨h, g, d, t, os⟩) :
    wpAny M A (checkBuiltinCall newId ⟨[.ref C], kw⟩) Q E ⟨h, g, d, t, os⟩ := by
  have inB : (Value.ref C :: bm).contains (.type B) = true := by rw [List.contains_cons, hT, F.hasB, Bool.or_true]
  have star := F.noStar
  simp only [checkBuiltinCall, F.newKind, F.newSplit, F.newRow]
  repeat (first | refine wpAny_loadPart_at hC ?_ | (refine wpAny_isSubtype_exc hC ?_; rw [inB]) | refine wpAny_staticBase_exc hC ?_ | refine wpAny_madeBy_exc hC ?_ | simp only [bne_self_eq_false, Bool.false_eq_true, if_false] | wp_step)
  exact z
theorem kw_new (F : ExcBaseFacts B newId initId bmB) (hT : ∀ X : String, bm.contains (.type X) = bmB.contains (.type X)) (hC : h.get? C = some (excClassObj nm q C N bs bm hdct sn sub ab col dd k0 k1 k2 k3 k5 newId))
    (z : R (.ok (.ret (.ref (h.objs.size + 1)))) ⟨(h.push (W.kdv_tup [])).push (excO C h.objs.size), g, d, t, os⟩) : codeAny (model prog w) A (.builtin newId ⟨[.ref C], kw⟩) R ⟨h, g, d, t, os⟩ := by
  have ends := F.ends
  have inB : (Value.ref C :: bm).contains (.type B) = true := by rw [List.contains_cons, hT, F.hasB, Bool.or_true]
  have noA : (Value.ref C :: bm).contains (.type "AttributeError") = false := by rw [List.contains_cons, hT, F.noAttr]; rfl
  have noN : (Value.ref C :: bm).contains (.type "NameError") = false := by rw [List.contains_cons, hT, F.noName]; rfl
  have tiny : ([] : List Value).length ≤ sizeLine := Nat.zero_le _
  refine codeAny_builtinAt F.entry ?_
  unfold Builtin.«BaseException.__new__»
  refine wpAt_bind ?_
  show wpAt _ _ _ (stack >>= _) _ _ _
  refine wpAt_bind (wpAt_stack fun p below => wpAt_of_wpAny ?_)
  wp_walk
  refine wpAt_of_wpAny ?_
  rw [F.owner]
  repeat (first | with_reducible refine wpAny_madeHere_exc F.canon hC ?_ | with_reducible refine wpAny_loadPart_at hC ?_ | (with_reducible refine wpAny_isSubtype_exc hC ?_; first | rw [inB] | rw [noA] | rw [noN]) | wp_step)
  show R _ _
  rw [Heap.size_push]
  exact z
theorem kw_type_call (F : ExcBaseFacts B newId initId bmB) (hT : ∀ X : String, bm.contains (.type X) = bmB.contains (.type X)) {Q : Fin → Shared → Prop} (hC : h.get? C = some (excClassObj nm q C N bs bm hdct sn sub ab col dd k0 k1 k2 k3 k5 newId))
    (li : W.Looks (model prog w) h (typeLookup (.ref C) "__init__") (some (.ref fI))) (lb : ∀ self, W.Looks (model prog w) h (bindSpecial (.ref fI) self) (.ref fI, [self]))
    (run : codeAny (model prog w) A (.call (.ref fI) ⟨[.ref (h.objs.size + 1)], kw⟩) (fun r s' => match r with | .ok (.ret v) => v = .none ∧ Q (.done (.ret (.ref (h.objs.size + 1)))) s' | .ok _ => False | .error e => E e s')
      ⟨(h.push (W.kdv_tup [])).push (excO C h.objs.size), g, d, t, os⟩) : wpAny (model prog w) A (Builtin.«type.__call__» ⟨[.ref C], kw⟩) Q E ⟨h, g, d, t, os⟩ := by
  repeat (first | with_reducible refine wpAny_loadPart_at hC ?_ | with_reducible refine wpAny_madeBy_exc hC ?_ | wp_step)
  refine codeAny_call_builtin_code (Code.quiet_builtin _ F.quiet) (kw_check_new F hT hC (kw_new F hT hC ?_))
  have up : ∀ b o, h.get? b = some o → ((h.push (W.kdv_tup [])).push (excO C h.objs.size)).get? b = some o := fun _ _ y => Heap.get?_push_of_some _ (Heap.get?_push_of_some _ y)
  have hC2 := up _ _ hC
  have hE : ((h.push (W.kdv_tup [])).push (excO C h.objs.size)).get? (h.objs.size + 1) = some (excO C h.objs.size) := by heap_get
  have isC : (Value.ref C :: bm).contains (.ref C) = true := by simp
  have li2 := li.keeps up
  have lb2 := (lb (.ref (h.objs.size + 1))).keeps up
  show wpAny _ _ _ _ _ _
  unfold isInstance
  repeat (first | with_reducible refine wpAny_loadPart_at hE ?_ | (with_reducible refine wpAny_isSubtype_exc hC2 ?_; rw [isC]) | wp_step)
  show wpAny _ _ (typeLookup (.ref C) _) _ _ _
  refine li2.at (wpAny_holding (wpAny_bind (lb2.at (wpAny_bind (wpAny_call (codeAny_mono run fun r s' y => ?_))))))
  rcases r with e | (v | _ | _ | _) <;> first | exact y | exact y.elim | skip
  obtain ⟨y0, y⟩ := y
  subst y0
  first
    | exact wpAny_pure (wpAny_pure y)
    | (wp_walk; exact y)
theorem kw_call (F : ExcBaseFacts B newId initId bmB) (hT : ∀ X : String, bm.contains (.type X) = bmB.contains (.type X)) (hC : h.get? C = some (excClassObj nm q C N bs bm hdct sn sub ab col dd k0 k1 k2 k3 k5 newId))
    (li : W.Looks (model prog w) h (typeLookup (.ref C) "__init__") (some (.ref fI))) (lb : ∀ self, W.Looks (model prog w) h (bindSpecial (.ref fI) self) (.ref fI, [self]))
    (run : codeAny (model prog w) (A.under (.builtin "type.__call__" ⟨[.ref C], kw⟩)) (.call (.ref fI) ⟨[.ref (h.objs.size + 1)], kw⟩) (W.InitBack (h.objs.size + 1) R) ⟨(h.push (W.kdv_tup [])).push (excO C h.objs.size), g, d, t, os⟩) :
    codeAny (model prog w) A (.call (.ref C) ⟨[], kw⟩) R ⟨h, g, d, t, os⟩ := by
  have c1 := tc_lookup
  have c2 := tc_bind (.ref C)
  have ty : (⟨h, g, d, t, os⟩ : Shared).TypeIs (.ref C) "type" := ⟨_, hC, rfl⟩
  refine codeAny_of_tree ?_
  show wpAny _ _ (callAny (.ref C) _) _ _ _
  repeat (any_goals (first | assumption | with_reducible refine wpAny_loadPart_at hC ?_ | wp_step))
  refine ⟨rfl, codeAny_call_builtin_at (Code.quiet_builtin _ (by decide +kernel)) entry_typeCall (wpAny_check_type_call_sub hC (kw_type_call F hT hC li lb ?_))⟩
  refine codeAny_mono run fun r s' y => ?_
  rcases r with e | (v | _ | _ | _) <;> exact y
end
end HSK
end PySem
namespace HS
open PySem PySem.Spec PyProof.Rows L2
/-- C(k = v) as a value -/
def tNewK (C : Addr) (n : Nat) (sp : Sp) (gV : List V → List V → List V) (tk : TA) : TE := fun σ H Q => tk σ H fun zs H1 => zs.length = n ∧ ∀ a, H1 a = none → sp (gV [.ref a] zs) (upd H1 a (exo a C none)) (fun v H2 => v = .non ∧ Q (.ref a) H2) (fun _ _ _ => False)
section
variable {X : Cx} {CX : CXT} {x : Str} {C fI : Addr} {k : Nat} {fd : FuncData} {ps ks : List Str} {sp : Sp} {kws : List Keyword} {tk : TA} {p pos : Pos} {g : List Value → List Value → List Value} {gV : List V → List V → List V}
theorem pe_newK (T : OexC X.K C) (iC : PySem.W.findIn X.K (.ref C) "__init__" = some (some (.ref fI))) (tI : PySem.W.typeIn X.K (.ref fI) = some (.type "function"))
    (F1 : FnOk X.prog X.w X.K X.mg X.base CX k fI fd ps sp) (hr : Room (k + 1) X.A) (hb : KBn X.K fd ps 1 ks g gV) (hx : Passes CX X (fun _ _ _ => False)) (hg : Gl X x) (hm : X.mg x = some (.ref C)) (hkw : PK X kws tk)
    (hall : (backToKw pos (keywordEach kws X.env)).all (·.1.isSome) = true := by rfl) (hks : (backToKw pos (keywordEach kws X.env)).filterMap (·.1) = ks := by rfl) (hdb : (x == ("__debug__" : Str)) = false := by decide)
    (hpl : ((backTo pos (starEach [] X.env)).any (·.1) || (backToKw pos (keywordEach kws X.env)).any (·.1.isNone)) = false := by rfl) : PE X (.Call (.Name x p) [] kws pos) (tNewK C ks.length sp gV tk) := by
  refine ⟨fun pins s σ H Q I hw => wpAny_Call_Name_kw (ld_glob I hg hm (PySem.W.callWith_KW0 (h₀ := X.base) I.ok.mod.kin T.kC hall (thn (hkw.run pos pins s σ H _ I hw) fun ws s1 ⟨zs, H1, I1, rz, lz, q1⟩ => ⟨I1.kIn, ?_⟩) hpl) hdb)⟩
  obtain ⟨nm, qn, N, bs, bm, sn, sub, ab, col, dd, k0, k1, k2, k3, k5, hC, hbm⟩ := T.cls
  rw [hks]
  obtain ⟨hp, g0, dr, t, os⟩ := s1
  have le1 : hp.objs.size ≤ hp.objs.size + 1 := by omega
  have kept : ∀ b o, hp.get? b = some o → ((hp.push (PySem.W.kdv_tup [])).push (PySem.HandSPX.excO C hp.objs.size)).get? b = some o := fun _ _ z => Heap.get?_push_of_some _ (Heap.get?_push_of_some _ z)
  have at1 : ((hp.push (PySem.W.kdv_tup [])).push (PySem.HandSPX.excO C hp.objs.size)).get? (hp.objs.size + 1) = some (PySem.HandSPX.excO C hp.objs.size) := by heap_get
  have J : Inv X pins σ (upd H1 (hp.objs.size + 1) (exo (hp.objs.size + 1) C none)) ⟨(hp.push (PySem.W.kdv_tup [])).push (PySem.HandSPX.excO C hp.objs.size), g0, dr, t, os⟩ := I1.laid (t' := t) kept le1 (exo_ok at1)
  have q2 := q1 (hp.objs.size + 1) (I1.hok.fresh le1)
  have r1 : Vals [V.ref (hp.objs.size + 1)] [Value.ref (hp.objs.size + 1)] := .cons rfl .nil
  have bnd := hb.to _ [Value.ref (hp.objs.size + 1)] ws J.kIn rfl (rz.length.symm.trans lz)
  refine wpAny_call (PySem.HSK.kw_call F.excBase_ValueError (fun Y => PySem.HandSPX.refsVE_contains Y bm hbm) (I1.kIn _ _ hC) (PySem.W.looks_findIn I1.kIn iC) (fun self => PySem.W.bind_fn I1.kIn self tI)
    (codeAny_mono (F1.run _ X.stack _ _ ⟨[Value.ref (hp.objs.size + 1)], ks.zip ws⟩ _ _ _ _ (hr.make C [] (ks.zip ws)) (J.env0.make C [] (ks.zip ws)) bnd (hb.rel r1 rz) q2) fun r s' back => ?_))
  match r, back with
  | .error er, back => exact hx pins σ _ _ er s' J back
  | .ok (.ret u), back =>
    obtain ⟨v, H', J', rv, ev, q3⟩ := J.after back
    subst ev
    exact ⟨rv, ⟨V.ref (hp.objs.size + 1), H', J', rfl, q3⟩⟩
end
section
variable {σ : L2.St} {H : Hp} {Q : VK} {C : Addr} {sp : Sp} {m : Nat} {gV : List V → List V → List V} {tk : TA}
theorem newK (h : tk σ H fun zs H1 => zs.length = m ∧ ∀ a, H1 a = none → sp (gV [.ref a] zs) (upd H1 a (exo a C none)) (fun v H2 => v = .non ∧ Q (.ref a) H2) (fun _ _ _ => False)) : tNewK C m sp gV tk σ H Q := h
end
end HS
namespace HS
open PySem PySem.Spec PyProof.Rows L2
/-! ### own exceptions that are raised and caught -/
section
variable {C a : Addr} {sp : Sp} {dvs : List V} {ta : TA} {te : TE} {σ : L2.St} {H H1 H2 : Hp} {R : XK} {Q : VK} {d : Addr} {u o : HO}
theorem mkO (h : ta σ H fun vs H1 => vs.length ≤ 1000 ∧ ∀ a, H1 a = none → sp (.ref a :: (vs ++ dvs)) (upd H1 a (exo a C none))
    (fun v H2 => v = .non ∧ ∃ (d : Addr) (fs : List (Str × V)), H2 a = some (exo a C (some d)) ∧ H2 d = some (exd d fs) ∧ H1 d = none ∧ R (.ref C) (some d) (upd (del H2 a) d (.xd fs))) (fun _ _ _ => False)) : tMkO C sp dvs ta σ H R := h
theorem callS {E : L2.St → XK} (h : ta σ H fun vs H1 => sp vs H1 Q (E σ)) : tCallS sp E ta σ H Q := h
theorem xf {cls : Value} {dx : Option Addr} {f : Str} (h : te σ H fun x H1 => x = .ref a ∧ cls = .ref C ∧ ∃ (dd : Addr) (fs : List (Str × V)) (v : V), dx = some dd ∧ H1 dd = some (.xd fs) ∧ fs.lookup f = some v ∧ Q v H1) : tXf a cls dx C f te σ H Q := h
/-- what stood ahead of the new exception a stands, and its dict at d besides -/
theorem Keep.exc (k : Keep (fun x => x = a) (upd H a o) H2) (ha : H a = none) (hd : H d = none) : Keep (fun _ => False) H (upd (del H2 a) d u) := fun b q e _ => by
  have hba : b ≠ a := ne_of_none e ha
  rw [upd_ne (ne_of_none e hd)]
  show (if b = a then none else H2 b) = some q
  rw [if_neg hba]
  exact k b q (by rw [upd_ne hba]; exact e) hba
/-- one value, put into a new exception whose maker holds the usual promise -/
theorem mk1 {K : PySem.W.Frag} {w : V}
    (hsp : ∀ (H' : Hp) (Q' : VK) (E' : XK) (b : Addr), OexC K C → PySem.W.findIn K (.ref C) "value" = some none → H' b = some (exo b C none) →
      (∀ H3 d, HS.Keep (fun x => x = b) H' H3 → H' d = none → d ≠ b → H3 b = some (exo b C (some d)) → H3 d = some (exd d [("value", w)]) → Q' .non H3) → sp [.ref b, w] H' Q' E')
    (T1 : OexC K C) (hv : PySem.W.findIn K (.ref C) "value" = some none)
    (h : ∀ H' d, Keep (fun _ => False) H H' → H d = none → H' d = some (.xd [("value", w)]) → R (.ref C) (some d) H') :
    [w].length ≤ 1000 ∧ ∀ a, H a = none → sp (.ref a :: ([w] ++ [])) (upd H a (exo a C none))
      (fun v H2 => v = .non ∧ ∃ (d : Addr) (fs : List (Str × V)), H2 a = some (exo a C (some d)) ∧ H2 d = some (exd d fs) ∧ H d = none ∧ R (.ref C) (some d) (upd (del H2 a) d (.xd fs))) (fun _ _ _ => False) :=
  ⟨show 1 ≤ 1000 by decide, fun a ha => hsp _ _ _ a T1 hv upd_same fun H3 d k hd hne e1 e2 =>
    have hd' : H d = none := by rw [upd_ne hne] at hd; exact hd
    ⟨rfl, d, _, e1, e2, hd', h _ d (k.exc ha hd') hd' upd_same⟩⟩
end
end HS
/-! Defs that are called while nothing is being shown (no repr stands on the stack), so that they may call repr of a list. -/
namespace HS
open PySem PySem.Spec PyProof.Rows L2
/-- a def's promise where no repr is under way -/
structure FnG (Pg : Program) (wd : World) (K : PySem.W.Frag) (mg : Str → Option Value) (base : Heap) (C : CXT) (n : Nat) (f : Addr) (fd : FuncData) (ps : List Str) (sp : Sp) : Prop where
  len : ∀ vs H Q E, sp vs H Q E → vs.length = ps.length
  go : ∀ (B : Around) (o : List Env) (s : Shared) (H : Hp) (ar : Args) (us : List Value) (vs : List V) (Q : VK) (E : XK), B.guards = some [] → Room n B → Env0 Pg wd K mg base B o s H →
    BindsTo s fd ar (ps.zip us) → Vals vs us → sp vs H Q E → codeAny (model Pg wd) B (.call (.ref f) ar) (CR C o Pg wd H s Q E) s
section
variable {Pg : Program} {wd : World} {K : PySem.W.Frag} {mg : Str → Option Value} {base : Heap} {C : CXT} {n : Nat} {f : Addr} {fd : FuncData} {ps : List Str} {sp : Sp}
/-- a finished body's end is the call's end -/
theorem g_end {N : List Str} {q : Str} {sc : Scope} {cd : Value} {B : Around} {o : List Env} {s : Shared} {H : Hp} {E : XK} {Q : VK} {x : Cx} (hx : x = cxOf C Pg wd K mg base N q sc f cd B o s H E) (fl : Flow) {s' : Shared} :
    SP x [] { nx := fun _ H' => Q .non H', rt := Q } fl s' → CR C o Pg wd H s Q E (.ok (.ret (match fl with | .ret v => v | _ => .none))) s' := by
  subst hx
  intro h
  cases fl
  case ret u => obtain ⟨v, st, H', J, rv, y⟩ := h; exact ⟨v, H', J.os, J.bare, J.base, J.hok, rv, y⟩
  case next => obtain ⟨st, H', J, y⟩ := h; exact ⟨.non, H', J.os, J.bare, J.base, J.hok, rfl, y⟩
  all_goals exact h.elim fun _ z => z.elim fun _ z => z.2.elim
theorem Fun.okG {x qn : Str} {st : Stmt} {N : List Str} (F : L2.Fun K x qn st f fd) (S : FnScope N ps (defScope st)) (len : ∀ vs H Q E, sp vs H Q E → vs.length = ps.length)
    (hb : ∀ (cd : Value) (B : Around) (o : List Env) (s : Shared) (H : Hp) (vs : List V) (Q : VK) (E : XK), B.guards = some [] → Room n (B.deeper (envOfC qn (defScope st) s.heap.objs.size f cd)) → sp vs H Q E →
      ∃ t, PSs (cxOf L2.CX0 Pg wd K mg base N qn (defScope st) f cd B o s H E).nox (defBody st) t ∧ t { nx := fun _ H' => Q .non H', rt := Q } (start N vs) H) : FnG Pg wd K mg base L2.CX0 (n + 1) f fd ps sp := by
  obtain ⟨_, _, _, _, _, _, cd, _, _, rfl, lk, hcd⟩ := F.ex
  refine ⟨len, fun B o s H ar us vs Q E hg hr e0 bd rv hs => ?_⟩
  have kin : K.In s.heap := e0.mod.kin.keeps fun b u e => (e0.bs b u e).1
  have kinds : ∀ y ∈ ps.zip us, (defScope st).names.lookup y.1 = some .local ∨ ((defScope st).names.lookup y.1 = some .cell ∧ ((cellsFrom (s.heap.objs.size + 1) (defScope st).names []).lookup y.1).isSome = true) := by
    rintro ⟨z, v⟩ hy
    exact (S.par z (List.of_mem_zip hy).1).elim .inl fun c => .inr ⟨c, PySem.W.cellsFrom_some _ _ _ (.inl c)⟩
  refine codeAny_call_function hr.depth (kin _ _ lk) rfl S.co S.gen rfl (PySem.W.codeRec_of kin hcd) (bd _ _ _ _ (wpAny_newFunctionEnv_cells S.kind kinds fun _ he s1 made => ?_))
  subst he
  obtain ⟨t, ht, hq⟩ := hb cd B o s H vs Q E hg (hr.deeper _) hs
  have start0 := inv_start (CX := L2.CX0) (E := E) (qual := qn) (cd := cd) (f := f) S hr.hd e0 (len _ _ _ _ hs) rv made
  exact ⟨(e0.mod.nolimit.keeps fun b u e => (e0.bs b u e).1).keeps made.toInCall.keep, codeAny_func (wpAny_mono (ht.nox.run [] s1 _ H _ start0 hq) (fun fl s' => g_end rfl fl) fun _ _ h => h)⟩
end
/-! ### calls -/
/-- the call of a def, whichever way its arguments come -/
theorem after_call {X : Cx} {C : CXT} {E : XK} {pins : List (Addr × Obj)} {σ : L2.St} {H : Hp} {s : Shared} {Q : VK} {f : Addr} {us : List Value} {kw : List (Str × Value)} (hx : Passes C X E) (I : Inv X pins σ H s)
    (h : codeAny (model X.prog X.w) X.A (.call (.ref f) ⟨us, kw⟩) (CR C X.stack X.prog X.w H s Q E) s) : wpAny (model X.prog X.w) X.A (call (.ref f) us kw) (EP X pins σ Q) X.xe s :=
  wpAny_call (codeAny_mono h fun r s' y => match r, y with
    | .error e, y => hx pins σ H s e s' I y
    | .ok (.ret _), y => I.after y)
/-- how a call with keywords binds, where the numbers of its arguments are written -/
structure KBX (K : PySem.W.Frag) (fd : FuncData) (ps : List Str) (n : Nat) (ks : List Str) (g : List Value → List Value → List Value) (gV : List V → List V → List V) : Prop where
  to : ∀ (s : Shared) (us ws : List Value), us.length = n → ws.length = ks.length → BindsTo s fd ⟨us, ks.zip ws⟩ (ps.zip (g us ws))
  rel : ∀ {vs : List V} {us : List Value} {zs : List V} {ws : List Value}, Vals vs us → Vals zs ws → Vals (gV vs zs) (g us ws)
def tCallN (n m : Nat) (sp : Sp) (gV : List V → List V → List V) (E : XK) (t tk : TA) : TE := fun σ H Q => t σ H fun vs H1 => tk σ H1 fun zs H2 => vs.length = n ∧ zs.length = m ∧ sp (gV vs zs) H2 Q E
theorem relAt : ∀ {vs : List V} {us : List Value} (_ : Vals vs us) (i : Nat), RelV (vs.getD i .non) (us.getD i .none)
  | [], _, r, i => by cases r; exact rfl
  | _ :: _, _, r, 0 => by cases r with | cons a _ => exact a
  | _ :: _, _, r, i + 1 => by cases r with | cons _ b => exact relAt b i
section
variable {X : Cx} {C : CXT} {n m : Nat} {f : Addr} {fd : FuncData} {ps ks : List Str} {sp : Sp} {E : XK} {x : Str} {p q : Pos} {e : Expr} {es : List Expr} {kws : List Keyword} {t tk : TA} {g : List Value → List Value → List Value} {gV : List V → List V → List V}
theorem pe_callG (hG : X.A.guards = some []) (F : FnG X.prog X.w X.K X.mg X.base C n f fd ps sp) (hr : Room n X.A) (gl : Gl X x) (mf : X.mg x = some (.ref f)) (kf : PySem.W.keepIn X.K (.ref f) = true) (bd : Binds X.K fd ps []) (hx : Passes C X E) (ha : PA X (e :: es) t)
    (h1 : (x == ("__debug__" : Str)) = false := by decide) (h2 : starEach (e :: es) X.env = (false, eval e X.env) :: starEach es X.env := by rfl) (h3 : (backTo q (starEach es X.env)).any (·.1) = false := by rfl) :
    PE X (.Call (.Name x p) (e :: es) [] q) (tCall sp [] E t) := by
  constructor
  intro pins s σ H Q I h
  refine wpAny_Call_Name_kw (ld_glob I gl mf (PySem.W.callWith_K (h₀ := X.base) I.ok.mod.kin kf (thn (ha.run q pins s σ H _ I h) fun us s1 ⟨vs, H1, I1, r, y⟩ => ⟨I1.kIn, ?_⟩) h2 h3) h1)
  have y : sp (vs ++ []) H1 Q E := y
  rw [List.append_nil] at y
  have hl : (us ++ []).length = ps.length := by rw [List.append_nil, ← r.length]; exact F.len _ _ _ _ y
  exact after_call hx I1 (F.go X.A X.stack s1 H1 _ (us ++ []) vs Q E hG hr I1.env0 (bd s1 us I1.kIn hl) (by rw [List.append_nil]; exact r) y)
/-- f(e, .., k = v, ..), f(k = v, ..) -/
theorem kw_to (hb : KBX X.K fd ps n ks g gV) {pins : List (Addr × Obj)} {σ : L2.St} {H : Hp} {s : Shared} {Q : VK} {vs zs : List V} {us ws : List Value}
    (run : ∀ (bs : List Value) (bv : List V), BindsTo s fd ⟨us, ks.zip ws⟩ (ps.zip bs) → Vals bv bs → sp bv H Q E → codeAny (model X.prog X.w) X.A (.call (.ref f) ⟨us, ks.zip ws⟩) (CR C X.stack X.prog X.w H s Q E) s)
    (hx : Passes C X E) (I : Inv X pins σ H s) (r : Vals vs us) (rz : Vals zs ws) (l1 : vs.length = n) (l2 : zs.length = ks.length) (y : sp (gV vs zs) H Q E) : wpAny (model X.prog X.w) X.A (call (.ref f) us (ks.zip ws)) (EP X pins σ Q) X.xe s :=
  after_call hx I (run _ _ (hb.to s us ws (by rw [← r.length]; exact l1) (by rw [← rz.length]; exact l2)) (hb.rel r rz) y)
theorem pe_kwG (hG : X.A.guards = some []) (F : FnG X.prog X.w X.K X.mg X.base C m f fd ps sp) (hr : Room m X.A) (gl : Gl X x) (mf : X.mg x = some (.ref f)) (kf : PySem.W.keepIn X.K (.ref f) = true) (hb : KBX X.K fd ps n ks g gV) (hx : Passes C X E) (ha : PA X (e :: es) t) (hk : PK X kws tk)
    (h0 : (backToKw q (keywordEach kws X.env)).all (·.1.isSome) = true := by rfl) (hks : (backToKw q (keywordEach kws X.env)).filterMap (·.1) = ks := by rfl) (h1 : (x == ("__debug__" : Str)) = false := by decide) (h2 : starEach (e :: es) X.env = (false, eval e X.env) :: starEach es X.env := by rfl)
    (h3 : ((backTo q (starEach (e :: es) X.env)).any (·.1) || (backToKw q (keywordEach kws X.env)).any (·.1.isNone)) = false := by rfl) : PE X (.Call (.Name x p) (e :: es) kws q) (tCallN n ks.length sp gV E t tk) := by
  constructor
  intro pins s σ H Q I h
  refine wpAny_Call_Name_kw (ld_glob I gl mf (PySem.W.callWith_KW (h₀ := X.base) I.ok.mod.kin kf h0 (thn (ha.run q pins s σ H _ I h) fun us s1 ⟨vs, H1, I1, r, y⟩ => thn (hk.run q pins s1 σ H1 _ I1 y) fun ws s2 ⟨zs, H2, I2, rz, l1, l2, y2⟩ => ⟨I2.kIn, ?_⟩) h3 h2) h1)
  rw [hks]
  exact kw_to hb (fun bs bv b1 b2 b3 => F.go X.A X.stack s2 H2 _ bs bv Q E hG hr I2.env0 b1 b2 b3) hx I2 r rz l1 l2 y2
theorem pe_kwG0 (hG : X.A.guards = some []) (F : FnG X.prog X.w X.K X.mg X.base C m f fd ps sp) (hr : Room m X.A) (gl : Gl X x) (mf : X.mg x = some (.ref f)) (kf : PySem.W.keepIn X.K (.ref f) = true) (hb : KBX X.K fd ps 0 ks g gV) (hx : Passes C X E) (hk : PK X kws tk)
    (h0 : (backToKw q (keywordEach kws X.env)).all (·.1.isSome) = true := by rfl) (hks : (backToKw q (keywordEach kws X.env)).filterMap (·.1) = ks := by rfl) (h1 : (x == ("__debug__" : Str)) = false := by decide)
    (h3 : ((backTo q (starEach [] X.env)).any (·.1) || (backToKw q (keywordEach kws X.env)).any (·.1.isNone)) = false := by rfl) : PE X (.Call (.Name x p) [] kws q) (tCallN 0 ks.length sp gV E tNil tk) := by
  constructor
  intro pins s σ H Q I h
  refine wpAny_Call_Name_kw (ld_glob I gl mf (PySem.W.callWith_KW0 (h₀ := X.base) I.ok.mod.kin kf h0 (thn (hk.run q pins s σ H _ I h) fun ws s2 ⟨zs, H2, I2, rz, l1, l2, y2⟩ => ⟨I2.kIn, ?_⟩) h3) h1)
  rw [hks]
  exact kw_to hb (fun bs bv b1 b2 b3 => F.go X.A X.stack s2 H2 _ bs bv Q E hG hr I2.env0 b1 b2 b3) hx I2 .nil rz rfl l2 y2
/-- the same of a def that may be called anywhere -/
theorem pe_kw (F : FnOk X.prog X.w X.K X.mg X.base C m f fd ps sp) (hr : Room m X.A) (gl : Gl X x) (mf : X.mg x = some (.ref f)) (kf : PySem.W.keepIn X.K (.ref f) = true) (hb : KBX X.K fd ps n ks g gV) (hx : Passes C X E) (ha : PA X (e :: es) t) (hk : PK X kws tk)
    (h0 : (backToKw q (keywordEach kws X.env)).all (·.1.isSome) = true := by rfl) (hks : (backToKw q (keywordEach kws X.env)).filterMap (·.1) = ks := by rfl) (h1 : (x == ("__debug__" : Str)) = false := by decide) (h2 : starEach (e :: es) X.env = (false, eval e X.env) :: starEach es X.env := by rfl)
    (h3 : ((backTo q (starEach (e :: es) X.env)).any (·.1) || (backToKw q (keywordEach kws X.env)).any (·.1.isNone)) = false := by rfl) : PE X (.Call (.Name x p) (e :: es) kws q) (tCallN n ks.length sp gV E t tk) := by
  constructor
  intro pins s σ H Q I h
  refine wpAny_Call_Name_kw (ld_glob I gl mf (PySem.W.callWith_KW (h₀ := X.base) I.ok.mod.kin kf h0 (thn (ha.run q pins s σ H _ I h) fun us s1 ⟨vs, H1, I1, r, y⟩ => thn (hk.run q pins s1 σ H1 _ I1 y) fun ws s2 ⟨zs, H2, I2, rz, l1, l2, y2⟩ => ⟨I2.kIn, ?_⟩) h3 h2) h1)
  rw [hks]
  exact kw_to hb (fun bs bv b1 b2 b3 => F.run X.A X.stack s2 H2 _ bs bv Q E hr I2.env0 b1 b2 b3) hx I2 r rz l1 l2 y2
theorem pe_kw0 (F : FnOk X.prog X.w X.K X.mg X.base C m f fd ps sp) (hr : Room m X.A) (gl : Gl X x) (mf : X.mg x = some (.ref f)) (kf : PySem.W.keepIn X.K (.ref f) = true) (hb : KBX X.K fd ps 0 ks g gV) (hx : Passes C X E) (hk : PK X kws tk)
    (h0 : (backToKw q (keywordEach kws X.env)).all (·.1.isSome) = true := by rfl) (hks : (backToKw q (keywordEach kws X.env)).filterMap (·.1) = ks := by rfl) (h1 : (x == ("__debug__" : Str)) = false := by decide)
    (h3 : ((backTo q (starEach [] X.env)).any (·.1) || (backToKw q (keywordEach kws X.env)).any (·.1.isNone)) = false := by rfl) : PE X (.Call (.Name x p) [] kws q) (tCallN 0 ks.length sp gV E tNil tk) := by
  constructor
  intro pins s σ H Q I h
  refine wpAny_Call_Name_kw (ld_glob I gl mf (PySem.W.callWith_KW0 (h₀ := X.base) I.ok.mod.kin kf h0 (thn (hk.run q pins s σ H _ I h) fun ws s2 ⟨zs, H2, I2, rz, l1, l2, y2⟩ => ⟨I2.kIn, ?_⟩) h3) h1)
  rw [hks]
  exact kw_to hb (fun bs bv b1 b2 b3 => F.run X.A X.stack s2 H2 _ bs bv Q E hr I2.env0 b1 b2 b3) hx I2 .nil rz rfl l2 y2
end
section
variable {σ : L2.St} {H : Hp} {Q : VK} {t tk : TA} {sp : Sp} {gV : List V → List V → List V} {E : XK} {n m : Nat}
theorem caln (h : t σ H fun vs H1 => tk σ H1 fun zs H2 => vs.length = n ∧ zs.length = m ∧ sp (gV vs zs) H2 Q E) : tCallN n m sp gV E t tk σ H Q := h
theorem lnn {a b c d : Nat} {A : Prop} (e : a = c) (f : b = d) (h : A) : a = c ∧ b = d ∧ A := ⟨e, f, h⟩
end
/-! ### repr -/
mutual
/-- data of ints below 2 ^ 200, bools, None, in lists and tuples -/
def tame : PyData → Bool
  | .none | .bool _ => true
  | .int i => decide (i.natAbs < 2 ^ 200)
  | .list ds | .tuple ds => tameAll ds
  | _ => false
def tameAll : List PyData → Bool
  | [] => true
  | d :: ds => tame d && tameAll ds
end
theorem tame_int {i : Int} (h : i.natAbs < 2 ^ 200) : i.natAbs.log2 < 200 := by
  by_cases z : i.natAbs = 0
  · rw [z]; decide
  · exact (Nat.log2_lt z).mpr h
mutual
theorem tame_ok : ∀ d : PyData, tame d = true → d.showable = true ∧ d.hasDict = false ∧ d.leavesShort 201 = true
  | .none, _ => ⟨rfl, rfl, rfl⟩
  | .bool _, _ => ⟨rfl, rfl, rfl⟩
  | .int i, h => by
    have h' := tame_int (of_decide_eq_true (by simpa only [tame] using h))
    refine ⟨by simp only [PyData.showable]; exact decide_eq_true (by omega), rfl, ?_⟩
    simp only [PyData.leavesShort]
    exact decide_eq_true (by show (Str.ofString (toString i)).length ≤ 201; rw [PySem.ofString_length]; exact PySem.int_text_length_le (by decide) h')
  | .str _, h => by simp [tame] at h
  | .dict _, h => by simp [tame] at h
  | .list ds, h => by
    have := tame_okAll ds (by simpa only [tame] using h)
    simpa only [PyData.showable, PyData.hasDict, PyData.leavesShort] using this
  | .tuple ds, h => by
    have := tame_okAll ds (by simpa only [tame] using h)
    simpa only [PyData.showable, PyData.hasDict, PyData.leavesShort] using this
theorem tame_okAll : ∀ ds : List PyData, tameAll ds = true → PyData.showableAll ds = true ∧ PyData.hasDictAll ds = false ∧ PyData.leavesShortAll 201 ds = true
  | [], _ => ⟨rfl, rfl, rfl⟩
  | d :: ds, h => by
    have h' : tame d = true ∧ tameAll ds = true := by simpa only [tameAll, Bool.and_eq_true] using h
    obtain ⟨a, b, c⟩ := tame_ok d h'.1
    obtain ⟨a', b', c'⟩ := tame_okAll ds h'.2
    simp only [PyData.showableAll, PyData.hasDictAll, PyData.leavesShortAll, a, b, c, a', b', c']
    decide
end
/-- repr of a list or a tuple -/
def rRepr (K : PySem.W.Frag) : List V → Hp → VK → Prop := fun vs H Q => ∃ a d, vs = [.ref a] ∧ Dp K H (.ref a) d ∧ tame d = true ∧ d.depth ≤ 60 ∧ d.bulk ≤ 60000 ∧ Q (.str d.shown) H
theorem krepr (K : PySem.W.Frag) {X : Cx} {k : Nat} (hG : X.A.guards = some []) (hr : Room k X.A) (h : X.K = K := by rfl) : CallR X (.builtin "repr") (rRepr K) := by
  subst h
  intro pins s σ H xs us Q I r hq
  obtain ⟨a, d, rfl, hd, ht, hdp, hb, q⟩ := hq
  obtain ⟨u, rfl, ru⟩ := vals1 r
  obtain rfl : u = Value.ref a := ru
  obtain ⟨as, rd⟩ := Dp.reads I d _ _ hd rfl
  obtain ⟨o1, o2, o3⟩ := tame_ok d ht
  have fits := PyData.shown_le_bulk 201 (by decide) d o3
  have un := hr.units
  refine repr_of_reads' rd o1 (PyData.noDict_hsm o2) hG (by omega) (fun _ _ e => e) (fun h' u tk hk => ⟨.str d.shown, H, ?_, ⟨u, rfl⟩, q⟩) (by rw [sizeLine_eq]; omega)
  exact I.kept hk
end HS
/-! The end of a proof whose law def is called while nothing is being shown. -/
namespace HS
open PySem PySem.Spec PyProof.Rows L2
section
variable {Pg : Program} {wd : World} {K : PySem.W.Frag} {mg mb : Str → Option Value} {C : CXT} {n : Nat} {fa a : Addr} {fd : FuncData} {x : Str} {sp : Sp} {s1 : Shared} {vs : List Value} {ns : List Int}
/-- what the caller's heap holds where the abstract heap tracks the script alone, or nothing -/
structure AtTop (Pg : Program) (wd : World) (K : PySem.W.Frag) (a : Addr) (ns : List Int) (s1 : Shared) (H : Hp) : Prop where
  only : Only H
  here : SqL K H a (ns.map V.int)
  hok : HOk Pg wd H s1.heap
  one : ∀ b, b ≠ a → H b = none
  out : H a = none ∨ K.lookup a = none
theorem top_run (T : AtTop Pg wd K a ns s1 H) (KX : K.In s1.heap) (g : s1.heap.Ns mainGlobals mg) (gb : s1.heap.Ns builtinsNs mb) (hb : ∀ y : Str, y ≠ "__name__" → mb y = bootBuiltins y) (lim : s1.heap.NoLimit) (hg : s1.gens = #[])
    (seq : ∃ o, s1.heap.get? a = some o ∧ ∃ us m, o.data = .seq us m) (hr : Room n callerA) (F : ∀ base : Heap, K.In base → base.Ns mainGlobals mg → FnG Pg wd K mg base C n fa fd [x] sp) (bd : ∀ (s : Shared) (u : Value), BindsTo s fd ⟨[u], []⟩ [(x, u)])
    (want : ∀ H : Hp, Only H → SqL K H a (ns.map V.int) → sp [.ref a] H (fun v _ => v = .bl true) fun _ _ _ => False) (noX : ∀ H e s', C [] H s1 (fun _ _ _ => False) e s' → False) :
    codeAny (model Pg wd) callerA (.call (.ref fa) ⟨[.ref a], []⟩) (fun r s' => r = .ok (.ret (.bool true)) ∧ OldK s1.heap s'.heap ∧ s'.os = s1.os ∧ AllBare s'.gens) s1 := by
  obtain ⟨oa, ea, us, m, da⟩ := seq
  -- the base: all but what is tracked
  have stays : ∀ {b : Addr} {o : Obj}, s1.heap.get? b = some o → (b = a → H a = none) → (hidT s1.heap H).get? b = some o := fun {b o} e h =>
    hidT_get e (by by_cases q : b = a; · subst q; exact h rfl
                   · exact T.one b q)
  have dict : ∀ {b : Addr} {f : Str → Option Value}, s1.heap.Ns b f → (hidT s1.heap H).Ns b f := by
    rintro b f ⟨o, es, ep, e, d, r⟩
    refine ⟨o, es, ep, stays e fun q => ?_, d, r⟩
    subst q
    rw [ea] at e
    cases e
    rw [da] at d
    cases d
  have kin : K.In (hidT s1.heap H) := fun b o e => stays (KX b o e) fun q => by
    subst q
    rcases T.out with h | h
    · exact h
    · rw [h] at e; cases e
  have md : Mod K mg (hidT s1.heap H) := ⟨kin, dict g, ⟨mb, dict gb, hb⟩, by obtain ⟨mc, l1, l2⟩ := lim; exact ⟨mc, dict l1, l2⟩⟩
  have e0 : Env0 Pg wd K mg (hidT s1.heap H) callerA [] s1 H := ⟨rfl, md, fun _ _ e => of_hidT e, Nat.le_of_eq (hidT_size _ _), trivial, nofun, T.hok, .of_eq hg⟩
  refine codeAny_mono ((F _ kin (dict g)).go callerA [] s1 H ⟨[.ref a], []⟩ [.ref a] [.ref a] _ _ rfl hr e0 (bd s1 (.ref a)) (.cons rfl .nil) (want H T.only T.here)) fun r s' y => ?_
  match r, y with
  | .error e, y => exact (noX H e s' y).elim
  | .ok (.ret u), y =>
    obtain ⟨v, H', os, bare, un, ok', rv, rfl⟩ := y
    obtain rfl : u = Value.bool true := rv
    refine ⟨rfl, OldK.of_keep fun b o e => ?_, os, bare⟩
    rcases T.only b with z | ⟨ob, xs, z⟩
    · exact un.keep b o e z nofun nofun
    · have t1 := (T.hok b _ z).1
      rw [e] at t1
      rw [Option.some.inj t1]
      exact (ok' b _ (un.frzs b ob _ z)).1
theorem top_at (KX : K.In s1.heap) (ha : s1.heap.get? a = some { cls := .type "list", data := .seq vs.toArray }) (hi : IntsAre vs ns) (hl : ns.length ≤ sizeLine) : ∃ H, AtTop Pg wd K a ns s1 H := by
  have rv := vals_ints hi
  by_cases hk : K.lookup a = none
  · refine ⟨fun b => if b = a then some (.frz { cls := .type "list", data := .seq vs.toArray } (.lst (ns.map V.int))) else none, fun b => ?_, .inl (.inr ⟨_, if_pos rfl⟩), fun b u z => ?_, fun b q => if_neg q, .inr hk⟩
    · by_cases q : b = a
      · exact .inr ⟨_, _, if_pos q⟩
      · exact .inl (if_neg q)
    · by_cases q : b = a
      · subst q
        rw [if_pos rfl] at z
        cases z
        exact ⟨ha, by rw [List.length_map]; exact hl, vs, _, rv, ha⟩
      · rw [if_neg q] at z
        cases z
  · obtain ⟨o, ho⟩ := Option.ne_none_iff_exists'.mp hk
    have e := KX a o ho
    rw [ha] at e
    cases e
    exact ⟨fun _ => none, fun _ => .inl rfl, .inr ⟨_, vs.toArray, _, ho, rfl, rfl, rfl, by rw [List.size_toArray, hi.length]; exact hl, by simpa using rv⟩, (fun _ _ z => nomatch z), fun _ _ => rfl, .inl rfl⟩
end
theorem walk_ofG {l : PySem.W.OpenLaw} {n k : Nat} {q : Program} {loose : List Str} {XP : (Str → Option Value) → Heap → Prop} {YP : World → Heap → Prop} {d : DefRec} {K : Params → PySem.W.Frag} {CX : World → CXT} {sp : World → Sp} {x : Str}
    (h1 : l.most = some n) (h2 : n ≤ sizeLine) (h3 : d.params.defaults = []) (hr : Room k callerA) (hY : ∀ (w : World) (h : Heap), YP w h → (K w.params).In h)
    (F : ∀ (w : World) (mg : Str → Option Value) (fa : Addr) (h : Heap), (K w.params).In h → h.Ns mainGlobals mg → mg d.name = some (.ref fa) → ∃ fd : FuncData, (∀ (s : Shared) (u : Value), BindsTo s fd ⟨[u], []⟩ [(x, u)]) ∧
      ∀ base : Heap, (K w.params).In base → base.Ns mainGlobals mg → FnG l.prog w (K w.params) mg base (CX w) k fa fd [x] (sp w))
    (want : ∀ (w : World) (H : Hp) (a : Addr) (ns : List Int), ns.length ≤ n → Only H → SqL (K w.params) H a (ns.map V.int) → sp w [.ref a] H (fun v _ => v = .bl true) fun _ _ _ => False)
    (noX : ∀ (w : World) (H : Hp) (s : Shared) (e : Value) (s' : Shared), CX w [] H s (fun _ _ _ => False) e s' → False) : PySem.W.WalkO q loose XP YP l.row.toRowW d [] (fun f vs => PySem.call f vs) :=
  Att.attach_call h1 h3 fun w _ s1 mg _ fa _ _ _ _ a vs ns G Y _ _ _ hm ho hi hl hg => by
    obtain ⟨fd, bd, hF⟩ := F w mg fa _ (hY w _ Y) G.T.g hm
    obtain ⟨H, T⟩ := top_at (Pg := l.prog) (wd := w) (hY w _ Y) ho hi (Nat.le_trans hl h2)
    exact top_run T (hY w _ Y) G.T.g G.T.b G.T.builtins G.T.nolimit hg ⟨_, ho, _, _, rfl⟩ hr hF bd (fun H o => want w H a ns hl o) fun H e s' => noX w H s1 e s'
end HS
/-! Powers of great numbers, [x] * n. -/
namespace HS
open PySem PySem.Spec PyProof.Rows L2
def CPowW (i j : Int) : Prop := 0 ≤ j ∧ (Builtin.Int.intBits i : Int) * j ≤ 2 ^ 27
section
variable {X : Cx} {σ : L2.St} {H : Hp} {Q : VK}
theorem op_powW : OpR X (binaryOp .Pow) (rI CPowW fun i j => .int (i ^ j.toNat)) := opI fun _ _ _ _ _ _ _ hc q => pow_int hc.1 hc.2 q
theorem bits_le {i : Int} (k : Nat) (h0 : 0 ≤ i) (h : i < 2 ^ k) : Builtin.Int.intBits i ≤ k := by
  unfold Builtin.Int.intBits
  by_cases z : i = 0
  · subst z; exact Nat.zero_le _
  · rw [if_neg (by simpa using z)]
    have z' : i.natAbs ≠ 0 := by omega
    have : i.natAbs.log2 < k := (Nat.log2_lt z').mpr (by
      have : ((i.natAbs : Nat) : Int) < ((2 ^ k : Nat) : Int) := by rw [Int.natAbs_of_nonneg h0]; simpa using h
      exact Int.ofNat_lt.mp this)
    omega
theorem powW {i : Int} (k : Nat) {j : Int} (h0 : 0 ≤ i) (h : i < 2 ^ k) (hj : 0 ≤ j) (hk : (k : Int) * j ≤ 2 ^ 27) : CPowW i j := by
  refine ⟨hj, Int.le_trans (Int.mul_le_mul_of_nonneg_right ?_ hj) hk⟩
  exact Int.ofNat_le.mpr (bits_le k h0 h)
theorem flat_one {v : V} : ∀ n : Nat, (List.replicate n [v]).flatten = List.replicate n v
  | 0 => rfl
  | n + 1 => by rw [List.replicate_succ, List.flatten_cons, flat_one n]; rfl
theorem rep1 {p : Addr} {v : V} {k : Int} (h : H p = some (.lst [v])) (hk : k ≤ 1000000) (h0 : 0 ≤ k) (q : ∀ p, H p = none → Q (.ref p) (upd H p (.lst (List.replicate k.toNat v)))) : rRep (.ref p) (.int k) H Q := by
  refine ⟨p, k, _, rfl, rfl, h, by omega, by omega, ?_, fun p hp => ?_⟩
  · rw [List.length_singleton, sizeLine_eq]; omega
  · rw [flat_one]; exact q p hp
end
end HS
/-! repr of lists of ints, and == of texts. -/
namespace HS
open PySem PySem.Spec PyProof.Rows L2
section
variable {H : Hp} {Q : VK} {K : PySem.W.Frag}
theorem rep {a : Addr} {d : PyData} (h : Dp K H (.ref a) d) (t : tame d = true) (hd : d.depth ≤ 60) (hb : d.bulk ≤ 60000) (q : Q (.str d.shown) H) : rRepr K [.ref a] H Q := ⟨a, d, rfl, h, t, hd, hb, q⟩
theorem eqSS {x : Str} (q : Q (.bl true) H) : rEq (.str x) (.str x) H Q := ⟨rfl, by rw [decide_eq_true rfl]; exact q⟩
theorem neSS {x : Str} (q : Q (.bl false) H) : rNe (.str x) (.str x) H Q := ⟨rfl, by rw [decide_eq_true rfl]; exact q⟩
/-- ints that are shown -/
def Tm (ns : List Int) : Prop := (∀ x ∈ ns, x.natAbs < 2 ^ 200) ∧ ns.length ≤ 5000
theorem tame_ints : ∀ ns : List Int, (∀ x ∈ ns, x.natAbs < 2 ^ 200) → tameAll (ns.map .int) = true
  | [], _ => rfl
  | n :: r, h => by
    rw [List.map_cons, tameAll, tame_ints r fun x hx => h x (List.mem_cons_of_mem _ hx)]
    simp only [tame, Bool.and_true]
    exact decide_eq_true (h n List.mem_cons_self)
theorem bulk_ints : ∀ ns : List Int, PyData.bulkAll (ns.map .int) = ns.length
  | [] => rfl
  | n :: r => by rw [List.map_cons, PyData.bulkAll, bulk_ints r, PyData.bulk, List.length_cons]; omega
theorem tm_tame {ns : List Int} (h : Tm ns) : tame (dInts ns) = true := by unfold dInts; rw [tame]; exact tame_ints ns h.1
theorem tm_bulk {ns : List Int} (h : Tm ns) : (dInts ns).bulk ≤ 5000 := by unfold dInts; rw [PyData.bulk, bulk_ints]; exact h.2
theorem dInts_depth (ns : List Int) : (dInts ns).depth = 1 := by unfold dInts; rw [PyData.depth, dep_ints]
/-- repr of a list of ints -/
theorem repI {a : Addr} {ns : List Int} (h : SqL K H a (ns.map V.int)) (t : Tm ns) (q : Q (.str (dInts ns).shown) H) : rRepr K [.ref a] H Q :=
  rep (dp_ints h) (tm_tame t) (by rw [dInts_depth]; decide) (Nat.le_trans (tm_bulk t) (by decide)) q
/-- repr of a list of two lists of ints -/
def dII (xs ys : List Int) : PyData := .list [dInts xs, dInts ys]
theorem repII {a p r : Addr} {xs ys : List Int} (h : SqL K H a [.ref p, .ref r]) (h1 : SqL K H p (xs.map V.int)) (h2 : SqL K H r (ys.map V.int)) (t1 : Tm xs) (t2 : Tm ys) (q : Q (.str (dII xs ys).shown) H) : rRepr K [.ref a] H Q := by
  refine rep (.lst h (.cons (dp_ints h1) (.cons (dp_ints h2) .nil))) ?_ ?_ ?_ q
  · rw [tame, tameAll, tameAll, tameAll, tm_tame t1, tm_tame t2]; rfl
  · rw [PyData.depth, PyData.depthAll, PyData.depthAll, PyData.depthAll, dInts_depth, dInts_depth]; decide
  · have := tm_bulk t1
    have := tm_bulk t2
    rw [PyData.bulk, PyData.bulkAll, PyData.bulkAll, PyData.bulkAll]; omega
theorem tm_of {ns : List Int} {B : Int} (hB : B < 2 ^ 200) (h : ∀ x ∈ ns, 0 ≤ x ∧ x ≤ B) (hl : ns.length ≤ 5000) : Tm ns := ⟨fun x hx => by have := h x hx; omega, hl⟩
end
end HS
/-! Texts: joined, shown ints, ==. -/
namespace HS
open PySem PySem.Spec PyProof.Rows L2
section
variable {σ : L2.St} {H : Hp} {Q : VK} {te to : TE} {K : PySem.W.Frag}
theorem js {t : TE} {ts : List TE} {acc : Str} {q : Str → Hp → Prop} (h : t σ H fun x H1 => ∃ y : Str, x = .str y ∧ (acc ++ y).length ≤ sizeLine ∧ tJs ts (acc ++ y) σ H1 q) : tJs (t :: ts) acc σ H q := h
theorem jsn {acc : Str} {q : Str → Hp → Prop} (h : q acc H) : tJs [] acc σ H q := h
theorem fmt (h : te σ H fun x H1 => (∃ y : Str, x = .str y ∧ y.length ≤ sizeLine ∧ Q (.str y) H1) ∨ ∃ i : Int, x = .int i ∧ i.natAbs.log2 < 1920 ∧ Q (.str (toString i)) H1) : tFmt te σ H Q := h
theorem fmtI {i : Int} (h : i.natAbs.log2 < 1920 ∧ Q (.str (toString i)) H) : (∃ y : Str, V.int i = .str y ∧ y.length ≤ sizeLine ∧ Q (.str y) H) ∨ ∃ j : Int, V.int i = .int j ∧ j.natAbs.log2 < 1920 ∧ Q (.str (toString j)) H := .inr ⟨i, rfl, h⟩
theorem m1S {r : V → List V → Hp → VK → Prop} (h : to σ H fun x H1 => (∃ a, x = .str a) ∧ te σ H1 fun y H2 => r x [y] H2 Q) : tM1 r to te σ H Q := h
theorem m0S {r : V → List V → Hp → VK → Prop} (h : to σ H fun x H1 => (∃ a, x = .str a) ∧ r x [] H1 Q) : tM0 r to σ H Q := h
theorem strE {x : Str} {A : Prop} (h : A) : (∃ a, V.str x = .str a) ∧ A := ⟨⟨x, rfl⟩, h⟩
theorem atN {α : Type} {xs : List α} {i : Int} {v : α} (j : Nat) (e : i = j) (h : xs[j]? = some v) : atI xs i = some v := by
  subst e
  have hj := (List.getElem?_eq_some_iff.mp h).1
  unfold atI ixN
  rw [if_pos (by omega), if_pos (by omega)]
  exact h
theorem lg {z : Int} (h : z.natAbs < 2 ^ 200) : z.natAbs.log2 < 1920 := by
  by_cases e : z.natAbs = 0
  · rw [e]; decide
  · exact Nat.lt_of_lt_of_le ((Nat.log2_lt e).mpr h) (by decide)
theorem eqStr {x y : Str} (q : Q (.bl (decide (x = y))) H) : rEq (.str x) (.str y) H Q := ⟨rfl, by
  have e : decide ((V.str x) = V.str y) = decide (x = y) := by
    by_cases h : x = y
    · rw [h]; simp
    · have h2 : ¬ (V.str x = V.str y) := fun z => h (V.str.inj z)
      rw [decide_eq_false h, decide_eq_false h2]
  rw [e]; exact q⟩
theorem neStr {x y : Str} (q : Q (.bl (!decide (x = y))) H) : rNe (.str x) (.str y) H Q := ⟨rfl, by
  have e : decide ((V.str x) = V.str y) = decide (x = y) := by
    by_cases h : x = y
    · rw [h]; simp
    · have h2 : ¬ (V.str x = V.str y) := fun z => h (V.str.inj z)
      rw [decide_eq_false h, decide_eq_false h2]
  rw [e]; exact q⟩
theorem addS {x y : Str} (q : x.length + y.length ≤ sizeLine ∧ Q (.str (x ++ y)) H) : ∃ i j : Str, V.str x = V.str i ∧ V.str y = .str j ∧ i.length + j.length ≤ sizeLine ∧ Q (.str (i ++ j)) H := ⟨x, y, rfl, rfl, q⟩
end
end HS
/-! Lists of new triples of ints. -/
namespace HS
open PySem PySem.Spec PyProof.Rows L2
/-- the refs of vs are tuples of these triples -/
def Tri (H : Hp) : List V → List (Int × Int × Int) → Prop
  | [], [] => True
  | v :: vs, p :: ps => (∃ t, v = .ref t ∧ H t = some (.tup [.int p.1, .int p.2.1, .int p.2.2])) ∧ Tri H vs ps
  | _, _ => False
theorem Tri.keep {S : Addr → Prop} {H H' : Hp} (k : Keep S H H') : ∀ {vs : List V} {ps : List (Int × Int × Int)}, Tri H vs ps → (∀ v ∈ vs, ∀ t, v = .ref t → ¬ S t) → Tri H' vs ps
  | [], [], h, _ => h
  | _ :: _, _ :: _, ⟨⟨t, e, o⟩, h⟩, n => ⟨⟨t, e, k t _ o (n _ List.mem_cons_self t e)⟩, h.keep k fun v hv => n v (List.mem_cons_of_mem _ hv)⟩
theorem Tri.same {H H' : Hp} {vs : List V} {ps : List (Int × Int × Int)} (h : Tri H vs ps) (k : Keep (fun _ => False) H H') : Tri H' vs ps := h.keep k fun _ _ _ _ z => z
theorem Tri.app {H : Hp} : ∀ {vs ws : List V} {ps qs : List (Int × Int × Int)}, Tri H vs ps → Tri H ws qs → Tri H (vs ++ ws) (ps ++ qs)
  | [], _, [], _, _, g => g
  | _ :: _, _, _ :: _, _, ⟨a, h⟩, g => ⟨a, h.app g⟩
theorem Tri.len {H : Hp} : ∀ {vs : List V} {ps : List (Int × Int × Int)}, Tri H vs ps → vs.length = ps.length
  | [], [], _ => rfl
  | _ :: _, _ :: _, ⟨_, h⟩ => by rw [List.length_cons, List.length_cons, h.len]
theorem Tri.at {H : Hp} : ∀ {vs : List V} {ps : List (Int × Int × Int)}, Tri H vs ps → ∀ {i : Nat} {v : V}, vs[i]? = some v → ∃ t p, v = .ref t ∧ ps[i]? = some p ∧ H t = some (.tup [.int p.1, .int p.2.1, .int p.2.2])
  | [], [], _, i, v, hv => by simp at hv
  | _ :: _, p :: _, ⟨⟨t, e, o⟩, _⟩, 0, v, hv => by
    cases hv
    exact ⟨t, p, e, rfl, o⟩
  | _ :: _, _ :: _, ⟨_, h⟩, i + 1, v, hv => h.at (i := i) hv
theorem Tri.split {H : Hp} : ∀ {vs : List V} {ps : List (Int × Int × Int)} {p : Int × Int × Int}, Tri H vs (ps ++ [p]) → ∃ us t, vs = us ++ [.ref t] ∧ Tri H us ps ∧ H t = some (.tup [.int p.1, .int p.2.1, .int p.2.2])
  | [], ps, p, h => by cases ps <;> exact h.elim
  | v :: vs, [], p, ⟨⟨t, e, o⟩, h⟩ => by
    cases vs with
    | nil => exact ⟨[], t, by rw [e]; rfl, trivial, o⟩
    | cons _ _ => exact h.elim
  | v :: vs, q :: ps, p, ⟨a, h⟩ => by
    obtain ⟨us, t, e, g, o⟩ := h.split
    exact ⟨v :: us, t, by rw [e]; rfl, ⟨a, g⟩, o⟩
theorem Tri.lst {H : Hp} {L : Addr} {ws : List V} (hL : H L = some (.lst ws)) : ∀ {vs : List V} {ps : List (Int × Int × Int)}, Tri H vs ps → ∀ v ∈ vs, ∀ t, v = .ref t → t ≠ L
  | [], [], _, v, hv => by cases hv
  | w :: vs, p :: ps, ⟨⟨t, e, o⟩, h⟩, v, hv => fun u eu z => by
    rcases List.mem_cons.mp hv with hv | hv
    · subst hv
      rw [e] at eu
      cases eu
      rw [z, hL] at o
      cases o
    · exact h.lst hL v hv u eu z
theorem Tri.put {H : Hp} {L : Addr} {ws : List V} {o : HO} (hL : H L = some (.lst ws)) {vs : List V} {ps : List (Int × Int × Int)} (h : Tri H vs ps) : Tri (upd H L o) vs ps :=
  h.keep (S := fun a => a = L) (HS.Keep.at HS.Keep.refl rfl) (Tri.lst hL h)
theorem atLst {xs ys : List V} {v : V} (h : xs = ys ++ [v]) : atI xs (-1) = some v := by
  subst h
  unfold atI ixN
  rw [if_neg (by decide), if_pos (by rw [List.length_append, List.length_singleton]; omega)]
  show (ys ++ [v])[((-1 : Int) + (ys ++ [v]).length).toNat]? = some v
  rw [List.length_append, List.length_singleton, show ((-1 : Int) + ((ys.length + 1 : Nat) : Int)).toNat = ys.length by omega, List.getElem?_append_right (Nat.le_refl _), Nat.sub_self]
  rfl
theorem setLst {p : Addr} {ys : List V} {v w : V} {H : Hp} {q : Hp → Prop} (h : H p = some (.lst (ys ++ [v]))) (g : q (upd H p (.lst (ys ++ [w])))) : rSetL (.ref p) (.int (-1)) w H q := by
  refine HS.setL h (j := ys.length) ?_ ?_
  · unfold ixN
    rw [if_neg (by decide), if_pos (by rw [List.length_append, List.length_singleton]; omega)]
    congr 1
    rw [List.length_append, List.length_singleton]
    omega
  · rw [List.set_append_right _ _ (Nat.le_refl _), Nat.sub_self]
    exact g
end HS
/-! What _law_same looks at: pairs, triples. -/
namespace HS
open PySem PySem.Spec PyProof.Rows L2
section
variable {K : PySem.W.Frag} {H : Hp} {n : Nat} {a b : Addr}
theorem smI {i j : Int} (h : i = j) : SmV K H n (.int i) (.int j) := by rw [h]; exact .int j
theorem smT3 {x y z x' y' z' : Int} (h1 : H a = some (.tup [.int x, .int y, .int z])) (h2 : H b = some (.tup [.int x', .int y', .int z'])) (e1 : x = x') (e2 : y = y') (e3 : z = z') : SmV K H (n + 1) (.ref a) (.ref b) := by
  subst e1 e2 e3
  refine .tup h1 h2 rfl (show 3 ≤ 1000 by decide) fun i u v g1 g2 => ?_
  rw [g1] at g2
  cases g2
  match i, g1 with
  | 0, g1 => cases g1; exact .int _
  | 1, g1 => cases g1; exact .int _
  | 2, g1 => cases g1; exact .int _
  | _ + 3, g1 => cases g1
theorem sm2 {x y x' y' : V} (h1 : H a = some (.lst [x, y])) (h2 : H b = some (.lst [x', y'])) (s1 : SmV K H n x x') (s2 : SmV K H n y y') : SmV K H (n + 1) (.ref a) (.ref b) := by
  refine .lst h1 h2 rfl (show 2 ≤ 1000 by decide) fun i u v g1 g2 => ?_
  match i, g1, g2 with
  | 0, g1, g2 => cases g1; cases g2; exact s1
  | 1, g1, g2 => cases g1; cases g2; exact s2
  | _ + 2, g1, g2 => cases g1
/-- == of two tuples of ints -/
theorem sh_tints (ns : List Int) : SeqAt.shaped (.tuple (ns.map .int)) = true := by
  unfold SeqAt.shaped
  rw [PyData.canLay0, PyData.depth, lay_ints, dep_ints]; rfl
theorem eqT {xs ys : List Int} {Q : VK} (h1 : SqT K H a (xs.map V.int)) (h2 : SqT K H b (ys.map V.int)) (q : Q (.bl (decide (xs = ys))) H) : rEqD K (.ref a) (.ref b) H Q :=
  ⟨.tuple (xs.map .int), .tuple (ys.map .int), .tup h1 (dpAll_ints xs), .tup h2 (dpAll_ints ys), sh_tints _, sh_tints _, by rw [PyData.eqv, eqvAll_ints]; exact q⟩
end
end HS
namespace WK03
open PySem PySem.Spec PyProof.Rows L2
local macro_rules | `(tactic| walk_at "ne") => `(tactic| first | assumption | (apply Ne.symm; assumption) | exact ne_of_none (by assumption) (by assumption) | exact (ne_of_none (by assumption) (by assumption)).symm | exact ne_of_none upd_same (by assumption) | exact (ne_of_none upd_same (by assumption)).symm)
local macro_rules | `(tactic| walk_at "hp") => `(tactic| first | assumption | exact upd_same | (rw [upd_ne (by walk_at "ne")]; walk_at "hp"))
local macro_rules | `(tactic| walk_at "side") => `(tactic| first | omega | decide | assumption | exact ⟨by decide, by decide⟩ | exact ⟨by omega, by omega⟩ | exact .inl (by omega) | exact .inr (by omega) | exact .inl (by decide) | exact .inr (by decide) | exact ⟨by decide, by decide, by decide⟩ | exact ⟨by decide, by decide, by omega⟩ | exact .inl ⟨by omega, by omega⟩ | exact .inr ⟨by omega, by omega⟩ | exact .inr ⟨by decide, by decide⟩ | exact .inl ⟨by decide, by decide⟩ | (show _ < _; omega))
local macro_rules | `(tactic| walk_at "len") => `(tactic| ((try simp only [List.length_map, List.length_append, List.length_cons, List.length_nil, List.length_set, List.length_replicate]); omega))
local macro_rules | `(tactic| walk_at "sq") => `(tactic| first | assumption | exact HS.sq (by walk_at "hp"))
local macro_rules | `(tactic| walk_at "st") => `(tactic| first | assumption | exact HS.st (by walk_at "hp"))
local macro_rules | `(tactic| walk_at "h1") => `(tactic| first
  | with_reducible refine HS.seq ?_
  | with_reducible refine HS.asg ?_
  | with_reducible refine HS.nm ?_
  | with_reducible refine HS.var rfl ?_
  | with_reducible refine HS.cst ?_
  | with_reducible refine HS.op ?_
  | with_reducible refine HS.i0 ?_
  | ((with_reducible refine HS.i1 ?_); first | refine ⟨by walk_at "side", ?_⟩ | skip)
  | with_reducible refine HS.u0 ?_
  | with_reducible refine HS.un ?_
  | with_reducible refine HS.eqI ?_
  | with_reducible refine HS.neI ?_
  | with_reducible refine HS.tst ?_
  | with_reducible refine HS.tb1 ?_
  | with_reducible refine HS.bex ?_
  | with_reducible refine HS.ifs ?_
  | with_reducible refine HS.ife ?_
  | with_reducible refine HS.and ?_
  | with_reducible refine HS.or ?_
  | with_reducible refine HS.not ?_
  | with_reducible refine HS.andV ?_
  | with_reducible refine HS.orV ?_
  | with_reducible refine HS.notV ?_
  | with_reducible refine HS.chn ?_
  | with_reducible refine HS.ret ?_
  | with_reducible refine HS.retN ?_
  | with_reducible refine HS.drp ?_
  | with_reducible refine HS.cb ?_
  | with_reducible refine HS.anil ?_
  | with_reducible refine HS.acons ?_
  | with_reducible refine HS.cal ?_
  | with_reducible refine HS.tup ?_
  | with_reducible refine HS.lst ?_
  | with_reducible refine HS.par ?_
  | with_reducible refine HS.ex2 ?_
  | with_reducible refine HS.aug rfl ?_
  | with_reducible refine HS.ipi ?_
  | with_reducible refine HS.addI ?_
  | with_reducible refine HS.nxt ?_
  | with_reducible refine HS.brk ?_
  | with_reducible refine HS.cnt ?_
  | with_reducible refine HS.sub ?_
  | with_reducible refine HS.pnx ?_
  | with_reducible refine HS.prt ?_
  | with_reducible refine HS.pbk ?_
  | with_reducible refine HS.pct ?_
  | with_reducible refine iteF ?_
  | with_reducible refine iteT ?_
  | with_reducible refine HS.ii ?_
  | with_reducible refine HS.bmL ?_
  | with_reducible refine HS.bmL0 ?_
  | ((with_reducible refine' HS.tyL ?e ?_); case e => walk_at "hp")
  | ((with_reducible refine' HS.app ?e ?_); (case e => walk_at "hp"))
  | ((with_reducible refine' HS.setL ?e ?f ?_); (case e => walk_at "hp"); (case f => rfl))
  | ((with_reducible refine' HS.wp ?e ?_); case e => rfl)
  | ((with_reducible refine' HS.szc ?e ?_); case e => walk_at "len")
  | ((with_reducible refine' HS.szd ?e ?_); case e => walk_at "len")
  | with_reducible refine HS.yes ?_
  | with_reducible refine HS.lc ?_
  | with_reducible refine HS.rng1 ?_
  | with_reducible refine HS.rng2 ?_
  | with_reducible refine HS.rng3 ?_
  | with_reducible refine HS.lis ?_
  | with_reducible refine HS.fr ?_
  | with_reducible refine HS.i1e ?_
  | with_reducible refine HS.gthen ?_
  | with_reducible refine HS.g0 ?_
  | with_reducible refine HS.gfr ?_
  | with_reducible refine HS.gpl ?_
  | with_reducible refine HS.gyl ?_
  | with_reducible refine HS.lgn ?_
  | with_reducible refine HS.calg ?_
  | with_reducible refine HS.revL ?_
  | with_reducible refine HS.sl ?_
  | with_reducible refine HS.noP ?_
  | with_reducible refine HS.part ?_
  | with_reducible refine HS.ie ?_
  | ((with_reducible refine' HS.slLs ?e ?_); case e => walk_at "sq")
  | ((with_reducible refine' HS.gtup ?e ?f ?_); (case e => walk_at "st"); (case f => rfl))
  | with_reducible refine HS.gcons ?_
  | with_reducible refine HS.gnil ?_
  | with_reducible refine HS.itup ?_
  | with_reducible refine HS.ienu ?_
  | ((with_reducible refine' HS.cat ?e ?f ?_); (case e => walk_at "hp"); (case f => walk_at "hp"))
  | ((with_reducible refine' HS.ext ?e ?f ?_); (case e => walk_at "hp"); (case f => walk_at "hp"))
  | ((with_reducible refine' HS.sumL ?e ?_); case e => walk_at "sq")
  | ((with_reducible refine' HS.lenL ?e ?_); case e => walk_at "sq")
  | ((with_reducible refine' HS.lenT ?e ?_); case e => walk_at "st")
  | with_reducible refine HS.ra ?_
  | ((with_reducible refine' HS.ixL ?e ?f ?_); (case e => walk_at "sq"); (case f => rfl))
  | ((with_reducible refine' HS.ixT ?e ?f ?_); (case e => walk_at "st"); (case f => rfl)))
local macro_rules | `(tactic| walk_at "hs") => `(tactic| repeat' (walk_at "h1"))
local macro_rules | `(tactic| walk_at "fold") => `(tactic| (walk_at "hs"; assumption))
local macro_rules | `(tactic| walk_at "ns") => `(tactic| first | exact (fun z => z) | assumption | exact HS.nS2 (by walk_at "ne") (by walk_at "ne") | exact HS.nS3 (by walk_at "ne") (by walk_at "ne") (by walk_at "ne"))
local macro_rules | `(tactic| walk_at "kp") => `(tactic| first
  | assumption
  | exact HS.Keep.refl
  | (refine HS.Keep.at ?_ (by first | exact .inl rfl | exact .inr rfl | exact .inr (.inl rfl) | exact .inr (.inr rfl)); walk_at "kp")
  | (refine HS.Keep.put ?_ (by assumption); walk_at "kp")
  | (refine HS.Keep.new' (by assumption) (by first | assumption | exact HS.Keep.refl) (by walk_at "ns") ?_; walk_at "kp"))
local macro_rules | `(tactic| walk_at "ev") => `(tactic| first | assumption | exact HS.Exv.new (by walk_at "ev") (by assumption))
local macro_rules | `(tactic| walk_at "h1") => `(tactic| first
  | with_reducible refine HS.ost ?_
  | with_reducible refine HS.fldV ?_
  | with_reducible refine HS.newV ?_
  | with_reducible refine HS.newK ?_
  | ((with_reducible refine' HS.isV ?T ?he ?hq ?_); (case T => assumption); (case he => walk_at "ev"); (case hq => assumption))
  | ((with_reducible refine' HS.isVt ?T ?he ?hq ?_); (case T => assumption); (case he => walk_at "ev"); (case hq => assumption)))
local macro_rules | `(tactic| walk_at "h1") => `(tactic| first
  | with_reducible refine HS.caln ?_
  | with_reducible refine HS.ckw ?_
  | with_reducible refine HS.izip ?_
  | with_reducible refine HS.orT ?_
  | with_reducible refine HS.srv ?_
  | with_reducible refine HS.nt ?_
  | with_reducible refine HS.nf ?_
  | ((with_reducible refine' HS.lnn ?e ?f ?_); (case e => rfl); (case f => rfl)))
local macro_rules | `(tactic| walk_at "h1") => `(tactic| first
  | with_reducible refine HS.mkO ?_
  | with_reducible refine HS.callS ?_
  | with_reducible refine HS.xf ?_)
local macro_rules | `(tactic| walk_at "h1") => `(tactic| first
  | with_reducible refine HS.js ?_
  | with_reducible refine HS.jsn ?_
  | with_reducible refine HS.fmt ?_
  | with_reducible refine HS.m1S ?_
  | with_reducible refine HS.m0S ?_
  | with_reducible refine HS.strE ?_)
def topS (i : Nat) : Stmt := PySem.Challenge.pw_pagecounts_k03_places_of_lines.main.body.getD i (.Pass ⟨0, 0, 0, 0⟩)
abbrev s__law_source : Stmt := topS 22
abbrev N__law_source : List Str := ["script", "mix", "digits", "cell", "span"]
theorem sc__law_source : FnScope N__law_source ["script"] (defScope s__law_source) := ⟨rfl, rfl, rfl, by decide +kernel, rfl, by decide +kernel, by decide +kernel⟩
abbrev s__law_draw : Stmt := topS 23
abbrev N__law_draw : List Str := ["source", "many", "drawn", "mixed"]
theorem sc__law_draw : FnScope N__law_draw ["source", "many"] (defScope s__law_draw) := ⟨rfl, rfl, rfl, by decide +kernel, rfl, by decide +kernel, by decide +kernel⟩
abbrev s__law_lengths : Stmt := topS 25
abbrev N__law_lengths : List Str := ["source", "many", "wide", "part"]
theorem sc__law_lengths : FnScope N__law_lengths ["source", "many"] (defScope s__law_lengths) := ⟨rfl, rfl, rfl, by decide +kernel, rfl, by decide +kernel, by decide +kernel⟩
abbrev s__law_wide : Stmt := topS 26
abbrev N__law_wide : List Str := ["source", "lengths", "one", "some"]
theorem sc__law_wide : FnScope N__law_wide ["source", "lengths"] (defScope s__law_wide) := ⟨rfl, rfl, rfl, by decide +kernel, rfl, by decide +kernel, by decide +kernel⟩
abbrev s__law_sheets : Stmt := topS 27
abbrev N__law_sheets : List Str := ["long", "wide"]
theorem sc__law_sheets : FnScope N__law_sheets ["long", "wide"] (defScope s__law_sheets) := ⟨rfl, rfl, rfl, by decide +kernel, rfl, by decide +kernel, by decide +kernel⟩
abbrev s__law_same : Stmt := topS 24
abbrev N__law_same : List Str := ["found", "wanted", "k"]
theorem sc__law_same : FnScope N__law_same ["found", "wanted"] (defScope s__law_same) := ⟨rfl, rfl, rfl, by decide +kernel, rfl, by decide +kernel, by decide +kernel⟩
abbrev s_check_book : Stmt := topS 7
abbrev N_check_book : List Str := ["book", "index", "length"]
theorem sc_check_book : FnScope N_check_book ["book"] (defScope s_check_book) := ⟨rfl, rfl, rfl, by decide +kernel, rfl, by decide +kernel, by decide +kernel⟩
abbrev s_check_size : Stmt := topS 8
abbrev N_check_size : List Str := ["size"]
theorem sc_check_size : FnScope N_check_size ["size"] (defScope s_check_size) := ⟨rfl, rfl, rfl, by decide +kernel, rfl, by decide +kernel, by decide +kernel⟩
abbrev s_check_number : Stmt := topS 9
abbrev N_check_number : List Str := ["number", "least", "greatest"]
theorem sc_check_number : FnScope N_check_number ["number", "least", "greatest"] (defScope s_check_number) := ⟨rfl, rfl, rfl, by decide +kernel, rfl, by decide +kernel, by decide +kernel⟩
abbrev s_chapter_pages : Stmt := topS 14
abbrev N_chapter_pages : List Str := ["length", "size"]
theorem sc_chapter_pages : FnScope N_chapter_pages ["length", "size"] (defScope s_chapter_pages) := ⟨rfl, rfl, rfl, by decide +kernel, rfl, by decide +kernel, by decide +kernel⟩
abbrev s_count_pages : Stmt := topS 13
abbrev N_count_pages : List Str := ["book", "size", "length"]
theorem sc_count_pages : FnScope N_count_pages ["book", "size"] (defScope s_count_pages) := ⟨rfl, rfl, rfl, by decide +kernel, rfl, by decide +kernel, by decide +kernel⟩
abbrev s_page_of : Stmt := topS 11
abbrev N_page_of : List Str := ["book", "size", "chapter", "line"]
theorem sc_page_of : FnScope N_page_of ["book", "size", "chapter", "line"] (defScope s_page_of) := ⟨rfl, rfl, rfl, by decide +kernel, rfl, by decide +kernel, by decide +kernel⟩
abbrev s_find_chapter : Stmt := topS 15
abbrev N_find_chapter : List Str := ["book", "size", "page", "chapter", "before", "after"]
theorem sc_find_chapter : FnScope N_find_chapter ["book", "size", "page"] (defScope s_find_chapter) := ⟨rfl, rfl, rfl, by decide +kernel, rfl, by decide +kernel, by decide +kernel⟩
abbrev s_lines_on : Stmt := topS 12
abbrev N_lines_on : List Str := ["book", "size", "page", "chapter", "before", "first", "last"]
theorem sc_lines_on : FnScope N_lines_on ["book", "size", "page"] (defScope s_lines_on) := ⟨rfl, rfl, rfl, by decide +kernel, rfl, by decide +kernel, by decide +kernel⟩
abbrev s_Unreadable___init__ : Stmt := HS.inS (topS 5) 0
abbrev N_Unreadable___init__ : List Str := ["self", "value"]
theorem sc_Unreadable___init__ : FnScope N_Unreadable___init__ ["self", "value"] (defScope s_Unreadable___init__) := ⟨rfl, rfl, rfl, by decide +kernel, rfl, by decide +kernel, by decide +kernel⟩
abbrev s_read_number : Stmt := topS 20
abbrev N_read_number : List Str := ["word"]
theorem sc_read_number : FnScope N_read_number ["word"] (defScope s_read_number) := ⟨rfl, rfl, rfl, by decide +kernel, rfl, by decide +kernel, by decide +kernel⟩
abbrev s_read_chapters : Stmt := topS 19
abbrev N_read_chapters : List Str := ["part", "ahead", "sign", "behind", "many"]
theorem sc_read_chapters : FnScope N_read_chapters ["part"] (defScope s_read_chapters) := ⟨rfl, rfl, rfl, by decide +kernel, rfl, by decide +kernel, by decide +kernel⟩
abbrev s_read_book : Stmt := topS 18
abbrev N_read_book : List Str := ["text", "found", "before", "part", "many", "length", "book"]
theorem sc_read_book : FnScope N_read_book ["text"] (defScope s_read_book) := ⟨rfl, rfl, rfl, by decide +kernel, rfl, by decide +kernel, by decide +kernel⟩
abbrev s__law_total : Stmt := topS 28
abbrev N__law_total : List Str := ["lengths", "wide", "found", "long"]
theorem sc__law_total : FnScope N__law_total ["lengths", "wide"] (defScope s__law_total) := ⟨rfl, rfl, rfl, by decide +kernel, rfl, by decide +kernel, by decide +kernel⟩
abbrev s__law_pages : Stmt := topS 29
abbrev N__law_pages : List Str := ["lengths", "wide", "found", "at", "long", "spot"]
theorem sc__law_pages : FnScope N__law_pages ["lengths", "wide"] (defScope s__law_pages) := ⟨rfl, rfl, rfl, by decide +kernel, rfl, by decide +kernel, by decide +kernel⟩
abbrev s__law_small_right : Stmt := topS 30
abbrev N__law_small_right : List Str := ["lengths", "wide", "sheets", "number", "sheet", "told", "spot"]
theorem sc__law_small_right : FnScope N__law_small_right ["lengths", "wide"] (defScope s__law_small_right) := ⟨rfl, rfl, rfl, by decide +kernel, rfl, by decide +kernel, by decide +kernel⟩
abbrev s__law_great_right : Stmt := topS 31
abbrev N__law_great_right : List Str := ["source", "lengths", "wide", "at", "before", "long", "some", "spot", "told", "first", "number", "sheet"]
theorem sc__law_great_right : FnScope N__law_great_right ["source", "lengths", "wide"] (defScope s__law_great_right) := ⟨rfl, rfl, rfl, by decide +kernel, rfl, by decide +kernel, by decide +kernel⟩
abbrev s__law_read_right : Stmt := topS 32
abbrev N__law_read_right : List Str := ["source", "many", "long", "lots", "wide", "sheets", "time", "at", "spot", "before", "told", "first"]
theorem sc__law_read_right : FnScope N__law_read_right ["source"] (defScope s__law_read_right) := ⟨rfl, rfl, rfl, by decide +kernel, rfl, by decide +kernel, by decide +kernel⟩
abbrev s_law : Stmt := topS 33
abbrev N_law : List Str := ["script", "source", "k", "lengths", "saved", "turn", "few", "wide", "part"]
theorem sc_law : FnScope N_law ["script"] (defScope s_law) := ⟨rfl, rfl, rfl, by decide +kernel, rfl, by decide +kernel, by decide +kernel⟩
structure Ad where
  a__law_source : Addr
  d__law_source : FuncData
  a__law_draw : Addr
  d__law_draw : FuncData
  a__law_lengths : Addr
  d__law_lengths : FuncData
  a__law_wide : Addr
  d__law_wide : FuncData
  a__law_sheets : Addr
  d__law_sheets : FuncData
  a__law_same : Addr
  d__law_same : FuncData
  a_check_book : Addr
  d_check_book : FuncData
  a_check_size : Addr
  d_check_size : FuncData
  a_check_number : Addr
  d_check_number : FuncData
  a_chapter_pages : Addr
  d_chapter_pages : FuncData
  a_count_pages : Addr
  d_count_pages : FuncData
  a_page_of : Addr
  d_page_of : FuncData
  a_find_chapter : Addr
  d_find_chapter : FuncData
  a_lines_on : Addr
  d_lines_on : FuncData
  a_Unreadable___init__ : Addr
  d_Unreadable___init__ : FuncData
  a_read_number : Addr
  d_read_number : FuncData
  a_read_chapters : Addr
  d_read_chapters : FuncData
  a_read_book : Addr
  d_read_book : FuncData
  a__law_total : Addr
  d__law_total : FuncData
  a__law_pages : Addr
  d__law_pages : FuncData
  a__law_small_right : Addr
  d__law_small_right : FuncData
  a__law_great_right : Addr
  d__law_great_right : FuncData
  a__law_read_right : Addr
  d__law_read_right : FuncData
  a_law : Addr
  d_law : FuncData
  c_Unreadable : Addr
structure Txt (K : PySem.W.Frag) (mg : Str → Option Value) (A : Ad) : Prop where
  F__law_source : Fun K "_law_source" "_law_source" s__law_source A.a__law_source A.d__law_source
  g__law_source : mg "_law_source" = some (.ref A.a__law_source)
  b__law_source : Binds K A.d__law_source ["script"] []
  F__law_draw : Fun K "_law_draw" "_law_draw" s__law_draw A.a__law_draw A.d__law_draw
  g__law_draw : mg "_law_draw" = some (.ref A.a__law_draw)
  b__law_draw : Binds K A.d__law_draw ["source", "many"] []
  F__law_lengths : Fun K "_law_lengths" "_law_lengths" s__law_lengths A.a__law_lengths A.d__law_lengths
  g__law_lengths : mg "_law_lengths" = some (.ref A.a__law_lengths)
  b__law_lengths : Binds K A.d__law_lengths ["source", "many"] []
  F__law_wide : Fun K "_law_wide" "_law_wide" s__law_wide A.a__law_wide A.d__law_wide
  g__law_wide : mg "_law_wide" = some (.ref A.a__law_wide)
  b__law_wide : Binds K A.d__law_wide ["source", "lengths"] []
  F__law_sheets : Fun K "_law_sheets" "_law_sheets" s__law_sheets A.a__law_sheets A.d__law_sheets
  g__law_sheets : mg "_law_sheets" = some (.ref A.a__law_sheets)
  b__law_sheets : Binds K A.d__law_sheets ["long", "wide"] []
  F__law_same : Fun K "_law_same" "_law_same" s__law_same A.a__law_same A.d__law_same
  g__law_same : mg "_law_same" = some (.ref A.a__law_same)
  b__law_same : Binds K A.d__law_same ["found", "wanted"] []
  F_check_book : Fun K "check_book" "check_book" s_check_book A.a_check_book A.d_check_book
  g_check_book : mg "check_book" = some (.ref A.a_check_book)
  b_check_book : Binds K A.d_check_book ["book"] []
  F_check_size : Fun K "check_size" "check_size" s_check_size A.a_check_size A.d_check_size
  g_check_size : mg "check_size" = some (.ref A.a_check_size)
  b_check_size : Binds K A.d_check_size ["size"] []
  F_check_number : Fun K "check_number" "check_number" s_check_number A.a_check_number A.d_check_number
  g_check_number : mg "check_number" = some (.ref A.a_check_number)
  b_check_number : Binds K A.d_check_number ["number", "least", "greatest"] []
  F_chapter_pages : Fun K "chapter_pages" "chapter_pages" s_chapter_pages A.a_chapter_pages A.d_chapter_pages
  g_chapter_pages : mg "chapter_pages" = some (.ref A.a_chapter_pages)
  b_chapter_pages : Binds K A.d_chapter_pages ["length", "size"] []
  F_count_pages : Fun K "count_pages" "count_pages" s_count_pages A.a_count_pages A.d_count_pages
  g_count_pages : mg "count_pages" = some (.ref A.a_count_pages)
  b_count_pages : Binds K A.d_count_pages ["book", "size"] []
  F_page_of : Fun K "page_of" "page_of" s_page_of A.a_page_of A.d_page_of
  g_page_of : mg "page_of" = some (.ref A.a_page_of)
  b_page_of : Binds K A.d_page_of ["book", "size", "chapter", "line"] []
  F_find_chapter : Fun K "find_chapter" "find_chapter" s_find_chapter A.a_find_chapter A.d_find_chapter
  g_find_chapter : mg "find_chapter" = some (.ref A.a_find_chapter)
  b_find_chapter : Binds K A.d_find_chapter ["book", "size", "page"] []
  F_lines_on : Fun K "lines_on" "lines_on" s_lines_on A.a_lines_on A.d_lines_on
  g_lines_on : mg "lines_on" = some (.ref A.a_lines_on)
  b_lines_on : Binds K A.d_lines_on ["book", "size", "page"] []
  F_Unreadable___init__ : Fun K "__init__" "Unreadable.__init__" s_Unreadable___init__ A.a_Unreadable___init__ A.d_Unreadable___init__
  b_Unreadable___init__ : Binds K A.d_Unreadable___init__ ["self", "value"] []
  F_read_number : Fun K "read_number" "read_number" s_read_number A.a_read_number A.d_read_number
  g_read_number : mg "read_number" = some (.ref A.a_read_number)
  b_read_number : Binds K A.d_read_number ["word"] []
  F_read_chapters : Fun K "read_chapters" "read_chapters" s_read_chapters A.a_read_chapters A.d_read_chapters
  g_read_chapters : mg "read_chapters" = some (.ref A.a_read_chapters)
  b_read_chapters : Binds K A.d_read_chapters ["part"] []
  F_read_book : Fun K "read_book" "read_book" s_read_book A.a_read_book A.d_read_book
  g_read_book : mg "read_book" = some (.ref A.a_read_book)
  b_read_book : Binds K A.d_read_book ["text"] []
  F__law_total : Fun K "_law_total" "_law_total" s__law_total A.a__law_total A.d__law_total
  g__law_total : mg "_law_total" = some (.ref A.a__law_total)
  b__law_total : Binds K A.d__law_total ["lengths", "wide"] []
  F__law_pages : Fun K "_law_pages" "_law_pages" s__law_pages A.a__law_pages A.d__law_pages
  g__law_pages : mg "_law_pages" = some (.ref A.a__law_pages)
  b__law_pages : Binds K A.d__law_pages ["lengths", "wide"] []
  F__law_small_right : Fun K "_law_small_right" "_law_small_right" s__law_small_right A.a__law_small_right A.d__law_small_right
  g__law_small_right : mg "_law_small_right" = some (.ref A.a__law_small_right)
  b__law_small_right : Binds K A.d__law_small_right ["lengths", "wide"] []
  F__law_great_right : Fun K "_law_great_right" "_law_great_right" s__law_great_right A.a__law_great_right A.d__law_great_right
  g__law_great_right : mg "_law_great_right" = some (.ref A.a__law_great_right)
  b__law_great_right : Binds K A.d__law_great_right ["source", "lengths", "wide"] []
  F__law_read_right : Fun K "_law_read_right" "_law_read_right" s__law_read_right A.a__law_read_right A.d__law_read_right
  g__law_read_right : mg "_law_read_right" = some (.ref A.a__law_read_right)
  b__law_read_right : Binds K A.d__law_read_right ["source"] []
  F_law : Fun K "law" "law" s_law A.a_law A.d_law
  g_law : mg "law" = some (.ref A.a_law)
  b_law : Binds K A.d_law ["script"] []
  z_bool : mg "bool" = none
  z_enumerate : mg "enumerate" = none
  z_int : mg "int" = none
  z_isinstance : mg "isinstance" = none
  z_len : mg "len" = none
  z_list : mg "list" = none
  z_max : mg "max" = none
  z_min : mg "min" = none
  z_range : mg "range" = none
  z_repr : mg "repr" = none
  z_str : mg "str" = none
  z_sum : mg "sum" = none
  z_tuple : mg "tuple" = none
  kb_lines_on_0_page_size_book : HS.KBX K A.d_lines_on ["book", "size", "page"] 0 ["page", "size", "book"] (fun us ws => [ws.getD 2 .none, ws.getD 1 .none, ws.getD 0 .none]) (fun vs zs => [zs.getD 2 .non, zs.getD 1 .non, zs.getD 0 .non])
  kb_page_of_0_line_chapter_size_book : HS.KBX K A.d_page_of ["book", "size", "chapter", "line"] 0 ["line", "chapter", "size", "book"] (fun us ws => [ws.getD 3 .none, ws.getD 2 .none, ws.getD 1 .none, ws.getD 0 .none]) (fun vs zs => [zs.getD 3 .non, zs.getD 2 .non, zs.getD 1 .non, zs.getD 0 .non])
  m_Unreadable : mg "Unreadable" = some (.ref A.c_Unreadable)
  v_MOST_DIGITS : ∃ t : PySem.Tok, mg "MOST_DIGITS" = some (.int 40 t)
  C_Unreadable : OexC K A.c_Unreadable
  V_Unreadable : ExcC K A.c_Unreadable
  X_Unreadable : XfC K A.c_Unreadable
  n_Unreadable : PySem.W.findIn K (.ref A.c_Unreadable) "value" = some none
  i_Unreadable : PySem.W.findIn K (.ref A.c_Unreadable) "__init__" = some (some (.ref A.a_Unreadable___init__))
  t_Unreadable : PySem.W.typeIn K (.ref A.a_Unreadable___init__) = some (.type "function")
  k_Unreadable : KBn K A.d_Unreadable___init__ ["self", "value"] 1 ["value"] (fun us ws => us ++ ws) (fun vs zs => vs ++ zs)
  q_Unreadable_Unreadable : PySem.W.kitOne K (.ref A.c_Unreadable) (.ref A.c_Unreadable) = some true
  q_Unreadable_ValueError : PySem.W.kitOne K (.ref A.c_Unreadable) (.type "ValueError") = some true
/-- the source of draws at s, its digits at d; n: at most so many mixed draws so far -/
def Src (H : Hp) (s d : Addr) (n : Nat) : Prop := s ≠ d ∧ ∃ (gs : List Int) (l m c : Int), H s = some (.lst [.ref d, .int l, .int m, .int c]) ∧ H d = some (.lst (gs.map V.int)) ∧ (∀ x ∈ gs, 0 ≤ x) ∧ gs.length ≤ 63 ∧ 0 ≤ l ∧ 0 ≤ m ∧ m < 2 ^ 61 ∧ 0 ≤ c ∧ c ≤ n
/-- lengths of chapters -/
def Book (ls : List Int) : Prop := ∀ x ∈ ls, 1 ≤ x ∧ x < 10 ^ 30
theorem Src.keep {H H' : Hp} {s d : Addr} {n : Nat} (h : Src H s d n) (e1 : H' s = H s) (e2 : H' d = H d) : Src H' s d n := by
  obtain ⟨hsd, gs, l, m, c, h1, h2, h3⟩ := h
  exact ⟨hsd, gs, l, m, c, by rw [e1]; exact h1, by rw [e2]; exact h2, h3⟩
theorem Src.new {H : Hp} {s d p : Addr} {n : Nat} {o : HO} (h : Src H s d n) (hp : H p = none) : Src (upd H p o) s d n := by
  obtain ⟨hsd, gs, l, m, c, h1, h2, h3⟩ := h
  exact ⟨hsd, gs, l, m, c, by rw [upd_ne (ne_of_none h1 hp)]; exact h1, by rw [upd_ne (ne_of_none h2 hp)]; exact h2, h3⟩
theorem Src.put {H : Hp} {s d p : Addr} {n : Nat} {o : HO} (h : Src H s d n) (e1 : p ≠ s) (e2 : p ≠ d) : Src (upd H p o) s d n := by
  obtain ⟨hsd, gs, l, m, c, h1, h2, h3⟩ := h
  exact ⟨hsd, gs, l, m, c, by rw [upd_ne e1.symm]; exact h1, by rw [upd_ne e2.symm]; exact h2, h3⟩
theorem Src.ne1 {H : Hp} {s d p : Addr} {n : Nat} (h : Src H s d n) (hp : H p = none) : p ≠ s := by
  obtain ⟨hsd, gs, l, m, c, h1, h2, h3⟩ := h
  exact (ne_of_none h1 hp).symm
theorem Src.ne2 {H : Hp} {s d p : Addr} {n : Nat} (h : Src H s d n) (hp : H p = none) : p ≠ d := by
  obtain ⟨hsd, gs, l, m, c, h1, h2, h3⟩ := h
  exact (ne_of_none h2 hp).symm
theorem Src.up {H : Hp} {s d : Addr} {n m : Nat} (h : Src H s d n) (e : n ≤ m) : Src H s d m := by
  obtain ⟨hsd, gs, l, m', c, h1, h2, h3, h4, h5, h6, h7, h8, h9⟩ := h
  exact ⟨hsd, gs, l, m', c, h1, h2, h3, h4, h5, h6, h7, h8, by omega⟩
/-- the page count of an edition -/
def pcount (ls : List Int) (j : Int) : Int := (ls.map fun x => (x + j - 1) / j).sum
theorem pcount_nil (j : Int) : pcount [] j = 0 := rfl
theorem pcount_cons (x : Int) (ls : List Int) (j : Int) : pcount (x :: ls) j = (x + j - 1) / j + pcount ls j := by unfold pcount; rw [List.map_cons, List.sum_cons]
theorem pcount_append (xs ys : List Int) (j : Int) : pcount (xs ++ ys) j = pcount xs j + pcount ys j := by unfold pcount; rw [List.map_append, List.sum_append]
/-- a page for each chapter, and one more for each full page of its other lines -/
theorem pcount_less1 {j : Int} (hj : 1 ≤ j) : ∀ ls : List Int, (ls.length : Int) + (ls.map fun x => (x - 1) / j).sum = pcount ls j
  | [] => rfl
  | x :: r => by
    have e : (x + j - 1) / j = (x - 1) / j + 1 := by rw [show x + j - 1 = (x - 1) + j * 1 by omega, Int.add_mul_ediv_left _ _ (by omega)]
    rw [pcount_cons, ← pcount_less1 hj r, e, List.length_cons, List.map_cons, List.sum_cons]
    push_cast
    omega
theorem pcount_take {ls : List Int} {i : Nat} {x : Int} (j : Int) (h : ls[i]? = some x) : pcount (ls.take (i + 1)) j = pcount (ls.take i) j + (x + j - 1) / j := by
  obtain ⟨h1, h2⟩ := List.getElem?_eq_some_iff.mp h
  rw [List.take_add_one, h, pcount_append]
  show _ + pcount [x] j = _
  rw [pcount_cons, pcount_nil]; omega
theorem ceil_pos {x j : Int} (hx : 1 ≤ x) (hj : 1 ≤ j) : 1 ≤ (x + j - 1) / j := by
  rw [Int.le_ediv_iff_mul_le (by omega)]; omega
theorem pcount_len {ls : List Int} {j : Int} (hp : ∀ x ∈ ls, 1 ≤ x) (hj : 1 ≤ j) : (ls.length : Int) ≤ pcount ls j := by
  induction ls with
  | nil => exact Int.le_refl 0
  | cons x r ih =>
    rw [pcount_cons, List.length_cons]
    have := ceil_pos (hp x List.mem_cons_self) hj
    have := ih fun y hy => hp y (List.mem_cons_of_mem _ hy)
    omega
theorem pcount_pos {ls : List Int} {j : Int} (hp : ∀ x ∈ ls, 1 ≤ x) (hj : 1 ≤ j) : 0 ≤ pcount ls j := by
  have := pcount_len hp hj; omega
theorem take_all {ls : List Int} {P : Int → Prop} (h : ∀ x ∈ ls, P x) (n : Nat) : ∀ x ∈ ls.take n, P x := fun x hx => h x (List.mem_of_mem_take hx)
theorem Src.same {H H' : Hp} {s d : Addr} {n : Nat} (h : Src H s d n) (k : HS.Keep (fun _ => False) H H') : Src H' s d n := by
  obtain ⟨hsd, gs, l, m, c, h1, h2, h3⟩ := h
  exact ⟨hsd, gs, l, m, c, k _ _ h1 id, k _ _ h2 id, h3⟩
theorem sum_book {ls : List Int} (h : Book ls) : (ls.length : Int) ≤ ls.sum ∧ ls.sum ≤ ls.length * (10 ^ 30) := by
  induction ls with
  | nil => exact ⟨Int.le_refl _, Int.le_refl _⟩
  | cons x r ih =>
    have := ih fun y hy => h y (List.mem_cons_of_mem _ hy)
    have := h x List.mem_cons_self
    rw [List.sum_cons, List.length_cons]
    push_cast
    omega
/-! Sums of ceilings. -/
theorem ceil_le {x j q : Int} (hj : 1 ≤ j) : (x + j - 1) / j ≤ q ↔ x ≤ q * j := by
  rw [← Int.lt_add_one_iff, Int.ediv_lt_iff_lt_mul (by omega), Int.add_mul]
  omega
theorem ceil_up {x j : Int} (hj : 1 ≤ j) : x ≤ (x + j - 1) / j * j := (ceil_le hj).mp (Int.le_refl _)
theorem ceil_dn {x j : Int} (hj : 1 ≤ j) : (x + j - 1) / j * j ≤ x + j - 1 := Int.ediv_mul_le _ (by omega)
theorem ceil_nonneg {x j : Int} (hx : 0 ≤ x) (hj : 1 ≤ j) : 0 ≤ (x + j - 1) / j := Int.ediv_nonneg (by omega) (by omega)
theorem pcount_up (ls : List Int) {j : Int} (hj : 1 ≤ j) : ls.sum ≤ pcount ls j * j := by
  induction ls with
  | nil => rw [pcount_nil]; simp
  | cons x r ih =>
    rw [pcount_cons, List.sum_cons, Int.add_mul]
    have := ceil_up (x := x) hj
    omega
theorem pcount_ceil (ls : List Int) {j : Int} (hj : 1 ≤ j) : (ls.sum + j - 1) / j ≤ pcount ls j := (ceil_le hj).mpr (pcount_up ls hj)
theorem pcount_dn (ls : List Int) {j : Int} (hj : 1 ≤ j) : (pcount ls j - ls.length) * j ≤ ls.sum - ls.length := by
  induction ls with
  | nil => rw [pcount_nil]; simp
  | cons x r ih =>
    rw [pcount_cons, List.sum_cons, List.length_cons]
    have := ceil_dn (x := x) hj
    have e : ((x + j - 1) / j + pcount r j - ((r.length + 1 : Nat) : Int)) * j = (x + j - 1) / j * j - j + (pcount r j - r.length) * j := by
      rw [show ((x + j - 1) / j + pcount r j - ((r.length + 1 : Nat) : Int)) = ((x + j - 1) / j - 1) + (pcount r j - r.length) by push_cast; omega, Int.add_mul, Int.sub_mul, Int.one_mul]
    rw [e]
    push_cast
    omega
theorem pcount_most (ls : List Int) {j : Int} (hj : 1 ≤ j) : pcount ls j ≤ ls.length + (ls.sum - ls.length) / j := by
  have := (Int.le_ediv_iff_mul_le (by omega : 0 < j)).mpr (pcount_dn ls hj)
  omega
theorem pcount_anti {ls : List Int} {j k : Int} (hp : ∀ x ∈ ls, 1 ≤ x) (hj : 1 ≤ j) (hk : j ≤ k) : pcount ls k ≤ pcount ls j := by
  induction ls with
  | nil => exact Int.le_refl _
  | cons x r ih =>
    rw [pcount_cons, pcount_cons]
    have h1 := ih fun y hy => hp y (List.mem_cons_of_mem _ hy)
    have hx := hp x List.mem_cons_self
    have h2 : (x + k - 1) / k ≤ (x + j - 1) / j := (ceil_le (by omega)).mpr (Int.le_trans (ceil_up hj) (Int.mul_le_mul_of_nonneg_left hk (ceil_nonneg (by omega) hj)))
    omega
theorem pcount_mult {ls : List Int} {j m : Int} (hj : 1 ≤ j) (hm : 1 ≤ m) : pcount ls j ≤ m * pcount ls (j * m) := by
  have hjm : 1 ≤ j * m := by have := Int.mul_le_mul hj hm (by omega) (by omega); omega
  induction ls with
  | nil => rw [pcount_nil, pcount_nil, Int.mul_zero]; exact Int.le_refl _
  | cons x r ih =>
    rw [pcount_cons, pcount_cons, Int.mul_add]
    have h2 : (x + j - 1) / j ≤ m * ((x + j * m - 1) / (j * m)) := (ceil_le hj).mpr (by
      have := ceil_up (x := x) hjm
      rw [show m * ((x + j * m - 1) / (j * m)) * j = (x + j * m - 1) / (j * m) * (j * m) by rw [Int.mul_comm m, Int.mul_assoc, Int.mul_comm m j]]
      exact this)
    omega
theorem pcount_reverse (ls : List Int) (j : Int) : pcount ls.reverse j = pcount ls j := by
  induction ls with
  | nil => rfl
  | cons x r ih => rw [List.reverse_cons, pcount_append, ih, pcount_cons, pcount_cons, pcount_nil]; omega
theorem pcount_cut (ls : List Int) (n : Nat) (j : Int) : pcount (ls.take n) j + pcount (ls.drop n) j = pcount ls j := by
  rw [← pcount_append, List.take_append_drop]
theorem ceil_join {x y j : Int} (hj : 1 ≤ j) : (x + y + j - 1) / j ≤ (x + j - 1) / j + (y + j - 1) / j ∧ (x + j - 1) / j + (y + j - 1) / j ≤ (x + y + j - 1) / j + 1 := by
  have a1 := ceil_up (x := x) hj
  have a2 := ceil_dn (x := x) hj
  have b1 := ceil_up (x := y) hj
  have b2 := ceil_dn (x := y) hj
  have c1 := ceil_up (x := x + y) hj
  refine ⟨(ceil_le hj).mpr (by rw [Int.add_mul]; omega), ?_⟩
  generalize (x + j - 1) / j = p at *
  generalize (y + j - 1) / j = q at *
  generalize (x + y + j - 1) / j = r at *
  apply Int.le_of_lt_add_one
  apply Int.lt_of_not_ge
  intro h
  have h1 : (r + 2) * j ≤ (p + q) * j := Int.mul_le_mul_of_nonneg_right (by omega) (by omega)
  rw [Int.add_mul, Int.add_mul] at h1
  omega
theorem pcount_sum {ls : List Int} {j : Int} (hp : ∀ x ∈ ls, 1 ≤ x) (hl : (ls.length : Int) ≤ ls.sum) (hj : 1 ≤ j) : pcount ls j ≤ ls.sum := by
  have := pcount_most ls hj
  have := Int.ediv_le_self j (show 0 ≤ ls.sum - ls.length by omega)
  omega
/-! The text of a book. -/
open PySem in
def numS (z : Int) : Str := Str.ofString (toString z)
open PySem in
def partS (m z : Int) : Str := if m = 1 then numS z else numS m ++ "x" ++ numS z
section
open PySem
theorem numS_tl {z : Int} (h : 0 ≤ z) : TL.tl (numS z) = TL.numL z.toNat := by
  obtain ⟨n, rfl⟩ := Int.eq_ofNat_of_zero_le h
  unfold numS
  rw [TL.tl_num]
  rfl
theorem numS_free {k : Nat} (hk : k < 48 ∨ 57 < k) {z : Int} (h : 0 ≤ z) : ¬ k ∈ TL.tl (numS z) := by
  rw [numS_tl h]
  exact TL.numL_free hk
theorem numS_inj {z w : Int} (hz : 0 ≤ z) (hw : 0 ≤ w) (e : numS z = numS w) : z = w := by
  have := congrArg TL.tl e
  rw [numS_tl hz, numS_tl hw] at this
  have := TL.numL_inj this
  omega
theorem numS_len {z : Int} (h : 0 ≤ z) (h1 : z < 2 ^ 200) : (numS z).length ≤ 61 := PyProof.Rows.toString_length_le h (by decide) (by omega)
theorem x_tl : TL.tl ("x" : Str) = [120] := by rw [TL.tl_ofString]; rfl
theorem sep_tl : TL.tl (" + " : Str) = [32, 43, 32] := by rw [TL.tl_ofString]; rfl
theorem empty_tl : TL.tl ("empty" : Str) = [101, 109, 112, 116, 121] := by rw [TL.tl_ofString]; rfl
theorem partS_free {m z : Int} (hm : 0 ≤ m) (hz : 0 ≤ z) : ¬ 32 ∈ TL.tl (partS m z) := by
  unfold partS
  split
  · exact numS_free (.inl (by decide)) hz
  · rw [TL.tl_append, TL.tl_append, x_tl, List.mem_append, List.mem_append]
    rintro ((h | h) | h)
    · exact numS_free (.inl (by decide)) hm h
    · simp at h
    · exact numS_free (.inl (by decide)) hz h
theorem partS_len {m z : Int} (hm : 0 ≤ m) (hm1 : m < 2 ^ 200) (hz : 0 ≤ z) (hz1 : z < 2 ^ 200) : (partS m z).length ≤ 123 := by
  have a := numS_len hm hm1
  have b := numS_len hz hz1
  unfold partS
  split
  · omega
  · rw [TL.len_tl] at a b ⊢
    rw [TL.tl_append, TL.tl_append, x_tl, List.length_append, List.length_append]
    simp only [List.length_cons, List.length_nil]
    omega
theorem part_one {z : Int} (hz : 0 ≤ z) : Txt.partition (numS z) "x" = (numS z, Str.empty, Str.empty) := TL.partition_none x_tl (numS_free (.inr (by decide)) hz)
theorem part_more {m z : Int} (hm : 0 ≤ m) : Txt.partition (numS m ++ "x" ++ numS z) "x" = (numS m, ("x" : Str), numS z) := TL.partition_app x_tl (numS_free (.inr (by decide)) hm)
theorem x_ne : ("x" : Str) ≠ Str.empty := fun h => by
  have := congrArg TL.tl h
  rw [x_tl] at this
  cases this
theorem partS_inj {m z n w : Int} (hm : 0 ≤ m) (hz : 0 ≤ z) (hn : 0 ≤ n) (hw : 0 ≤ w) (e : partS m z = partS n w) : m = n ∧ z = w := by
  have p := congrArg (fun t => Txt.partition t "x") e
  unfold partS at e p
  by_cases h1 : m = 1 <;> by_cases h2 : n = 1
  · rw [if_pos h1, if_pos h2] at e
    exact ⟨by omega, numS_inj hz hw e⟩
  · rw [if_pos h1, if_neg h2] at p
    have p' : Txt.partition (numS z) "x" = Txt.partition (numS n ++ "x" ++ numS w) "x" := p
    rw [part_one hz, part_more hn] at p'
    exact absurd (Prod.mk.inj (Prod.mk.inj p').2).1.symm x_ne
  · rw [if_neg h1, if_pos h2] at p
    have p' : Txt.partition (numS m ++ "x" ++ numS z) "x" = Txt.partition (numS w) "x" := p
    rw [part_one hw, part_more hm] at p'
    exact absurd (Prod.mk.inj (Prod.mk.inj p').2).1 x_ne
  · rw [if_neg h1, if_neg h2] at p
    have p' : Txt.partition (numS m ++ "x" ++ numS z) "x" = Txt.partition (numS n ++ "x" ++ numS w) "x" := p
    rw [part_more hm, part_more hn] at p'
    exact ⟨numS_inj hm hn (Prod.mk.inj p').1, numS_inj hz hw (Prod.mk.inj (Prod.mk.inj p').2).2⟩
/-- stretches of equal numbers, behind k of the first that were seen before -/
def runs (k : Nat) : List Int → List (Int × Int)
  | [] => []
  | x :: r => if r.head? = some x then runs (k + 1) r else ((k : Int) + 1, x) :: runs 0 r
def spread (ps : List (Int × Int)) : List Int := ps.flatMap fun p => List.replicate p.1.toNat p.2
theorem runs_spread : ∀ {k : Nat} {x : Int} {r : List Int}, spread (runs k (x :: r)) = List.replicate k x ++ x :: r
  | k, x, [] => by
    rw [runs, if_neg (by simp)]
    show List.replicate ((k : Int) + 1).toNat x ++ [] = _
    rw [show ((k : Int) + 1).toNat = k + 1 by omega, List.append_nil, List.replicate_succ', ]
  | k, x, y :: r => by
    rw [runs]
    split
    · rename_i h
      have e : y = x := by simpa using h
      subst e
      rw [runs_spread, List.replicate_succ', List.append_assoc]
      rfl
    · show List.replicate ((k : Int) + 1).toNat x ++ spread (runs 0 (y :: r)) = _
      rw [runs_spread, show ((k : Int) + 1).toNat = k + 1 by omega, List.replicate_succ', List.append_assoc]
      rfl
theorem runs_mem : ∀ {ls : List Int} {k : Nat} {p : Int × Int}, p ∈ runs k ls → 1 ≤ p.1 ∧ p.1 ≤ (k : Int) + ls.length ∧ p.2 ∈ ls
  | [], _, _, h => by cases h
  | x :: r, k, p, h => by
    rw [runs] at h
    split at h
    · have := runs_mem h
      rw [List.length_cons]
      exact ⟨this.1, by push_cast; omega, List.mem_cons_of_mem _ this.2.2⟩
    · rw [List.length_cons]
      rcases List.mem_cons.mp h with h | h
      · subst h
        exact ⟨by show 1 ≤ (k : Int) + 1; omega, by show (k : Int) + 1 ≤ _; push_cast; omega, List.mem_cons_self⟩
      · have := runs_mem h
        exact ⟨this.1, by push_cast; omega, List.mem_cons_of_mem _ this.2.2⟩
theorem runs_len : ∀ (ls : List Int) (k : Nat), (runs k ls).length ≤ ls.length
  | [], _ => Nat.le_refl _
  | x :: r, k => by
    rw [runs]
    split
    · exact Nat.le_succ_of_le (runs_len r _)
    · exact Nat.succ_le_succ (runs_len r _)
theorem runs_ne {x : Int} {r : List Int} {k : Nat} : runs k (x :: r) ≠ [] := fun z => by
  have := runs_spread (k := k) (x := x) (r := r)
  rw [z] at this
  have := congrArg List.length this
  rw [List.length_append, List.length_cons] at this
  have : (0 : Nat) = _ := this
  omega
def partsOf (ls : List Int) : List Str := (runs 0 ls).map fun p => partS p.1 p.2
def textOf (ls : List Int) : Str := if ls = [] then "empty" else Txt.join " + " (partsOf ls)
theorem partsOf_free {ls : List Int} (h : ∀ x ∈ ls, 0 ≤ x) : ∀ p ∈ partsOf ls, ¬ 32 ∈ TL.tl p := fun p hp => by
  obtain ⟨q, hq, rfl⟩ := List.mem_map.mp hp
  have := runs_mem hq
  exact partS_free (by omega) (h _ this.2.2)
theorem split_parts {ps : List Str} (hn : ps ≠ []) (h : ∀ p ∈ ps, ¬ 32 ∈ TL.tl p) : Txt.split (Txt.join " + " ps) " + " = ps := TL.split_join sep_tl (by decide +kernel) hn h
theorem map_inj {α β : Type} {f : α → β} : ∀ {xs ys : List α}, (∀ x ∈ xs, ∀ y ∈ ys, f x = f y → x = y) → xs.map f = ys.map f → xs = ys
  | [], [], _, _ => rfl
  | [], _ :: _, _, e => by cases e
  | _ :: _, [], _, e => by cases e
  | x :: xs, y :: ys, h, e => by
    rw [List.map_cons, List.map_cons] at e
    injection e with e1 e2
    rw [h x List.mem_cons_self y List.mem_cons_self e1, map_inj (fun a ha b hb => h a (List.mem_cons_of_mem _ ha) b (List.mem_cons_of_mem _ hb)) e2]
theorem partsOf_inj {xs ys : List Int} (hx : ∀ x ∈ xs, 0 ≤ x) (hy : ∀ x ∈ ys, 0 ≤ x) (nx : xs ≠ []) (ny : ys ≠ []) (e : partsOf xs = partsOf ys) : xs = ys := by
  have e2 : runs 0 xs = runs 0 ys := map_inj (fun p hp q hq e => by
    have a := runs_mem hp
    have b := runs_mem hq
    obtain ⟨c, d⟩ := partS_inj (by omega) (hx _ a.2.2) (by omega) (hy _ b.2.2) e
    exact Prod.ext c d) e
  cases xs with
  | nil => exact absurd rfl nx
  | cons x r =>
    cases ys with
    | nil => exact absurd rfl ny
    | cons y s =>
      have := congrArg spread e2
      rw [runs_spread, runs_spread] at this
      exact this
theorem textOf_not_empty {x : Int} {r : List Int} (h : ∀ y ∈ x :: r, 0 ≤ y) : textOf (x :: r) ≠ ("empty" : Str) := fun e => by
  unfold textOf at e
  rw [if_neg (by simp)] at e
  have ne : partsOf (x :: r) ≠ [] := fun z => runs_ne (List.map_eq_nil_iff.mp z)
  have s := congrArg (fun t => Txt.split t " + ") e
  have s' : Txt.split (Txt.join " + " (partsOf (x :: r))) " + " = Txt.split "empty" " + " := s
  have j : Txt.join " + " [("empty" : Str)] = ("empty" : Str) := by
    rw [TL.join_eq]
    apply TL.ext_tl
    rw [TL.tl_join]
    decide +kernel
  have f : ∀ p ∈ [("empty" : Str)], ¬ 32 ∈ TL.tl p := fun p hp => by rw [List.mem_singleton.mp hp, empty_tl]; decide
  rw [split_parts ne (partsOf_free h), ← j, split_parts (by simp) f] at s'
  have m : ("empty" : Str) ∈ partsOf (x :: r) := by rw [s']; exact List.mem_singleton.mpr rfl
  obtain ⟨q, hq, eq⟩ := List.mem_map.mp m
  have hq := runs_mem hq
  have t := congrArg TL.tl eq
  rw [empty_tl] at t
  have mem : 101 ∈ TL.tl (partS q.1 q.2) := by rw [t]; exact List.mem_cons_self
  unfold partS at mem
  split at mem
  · exact numS_free (.inr (by decide)) (h _ hq.2.2) mem
  · rw [TL.tl_append, TL.tl_append, x_tl, List.mem_append, List.mem_append] at mem
    rcases mem with (g | g) | g
    · exact numS_free (.inr (by decide)) (by omega) g
    · simp at g
    · exact numS_free (.inr (by decide)) (h _ hq.2.2) g
theorem textOf_inj {xs ys : List Int} (hx : ∀ x ∈ xs, 0 ≤ x) (hy : ∀ x ∈ ys, 0 ≤ x) : textOf xs = textOf ys ↔ xs = ys := by
  refine ⟨fun e => ?_, fun e => by rw [e]⟩
  cases xs with
  | nil =>
    cases ys with
    | nil => rfl
    | cons y s => exact absurd e.symm (textOf_not_empty hy)
  | cons x r =>
    cases ys with
    | nil => exact absurd e (textOf_not_empty hx)
    | cons y s =>
      refine partsOf_inj hx hy (by simp) (by simp) ?_
      unfold textOf at e
      rw [if_neg (by simp), if_neg (by simp)] at e
      have s' := congrArg (fun t => Txt.split t " + ") e
      have s'' : Txt.split (Txt.join " + " (partsOf (x :: r))) " + " = Txt.split (Txt.join " + " (partsOf (y :: s))) " + " := s'
      have nx : partsOf (x :: r) ≠ [] := fun z => runs_ne (List.map_eq_nil_iff.mp z)
      have ny : partsOf (y :: s) ≠ [] := fun z => runs_ne (List.map_eq_nil_iff.mp z)
      rw [split_parts nx (partsOf_free hx), split_parts ny (partsOf_free hy)] at s''
      exact s''
theorem parts_bound {ls : List Int} (h : ∀ x ∈ ls, 0 ≤ x ∧ x < 2 ^ 200) (hl : ls.length ≤ 1000) : ((partsOf ls).map fun p => p.length).sum + (partsOf ls).length * (" + " : Str).length ≤ 16777216 := by
  have a : (" + " : Str).length = 3 := by rw [TL.len_tl, sep_tl]; rfl
  have b : (partsOf ls).length ≤ 1000 := by unfold partsOf; rw [List.length_map]; exact Nat.le_trans (runs_len ls 0) hl
  have c : ∀ ps : List Str, (∀ p ∈ ps, p.length ≤ 123) → (ps.map fun p => p.length).sum ≤ ps.length * 123 := fun ps => by
    induction ps with
    | nil => intro _; exact Nat.le_refl _
    | cons p r ih =>
      intro h
      rw [List.map_cons, List.sum_cons, List.length_cons]
      have := h p List.mem_cons_self
      have := ih fun q hq => h q (List.mem_cons_of_mem _ hq)
      omega
  have d := c (partsOf ls) fun p hp => by
    obtain ⟨q, hq, rfl⟩ := List.mem_map.mp hp
    have m := runs_mem hq
    have := h _ m.2.2
    exact partS_len (by omega) (by omega) (by omega) (by omega)
  rw [a]
  omega
theorem emp_app (x : Str) : Str.empty ++ x = x := TL.ext_tl (by rw [TL.tl_append]; rfl)
theorem lenA (x y : Str) : (x ++ y).length = x.length + y.length := by rw [TL.len_tl, TL.tl_append, List.length_append, ← TL.len_tl, ← TL.len_tl]
theorem x_len : ("x" : Str).length = 1 := by rw [TL.len_tl, x_tl]; rfl
theorem numS_one {z : Int} (h : 0 ≤ z) (h1 : z < 10) : TL.tl (numS z) = [48 + z.toNat] := by rw [numS_tl h, TL.numL_lt (by omega)]
theorem text_5335 : textOf [5, 3, 3, 5] = ("5 + 2x3 + 5" : Str) := by
  have r : partsOf [5, 3, 3, 5] = [numS 5, numS 2 ++ "x" ++ numS 3, numS 5] := rfl
  show Txt.join " + " (partsOf [5, 3, 3, 5]) = _
  rw [r, TL.join_eq]
  apply TL.ext_tl
  rw [TL.tl_join, sep_tl, TL.tl_ofString, List.map_cons, List.map_cons, List.map_cons, List.map_nil, TL.tl_append, TL.tl_append, x_tl, numS_one (by decide) (by decide), numS_one (by decide) (by decide), numS_one (by decide) (by decide)]
  decide +kernel
end
/-! Books read from texts. -/
section
open PySem
def isNumL (L : List Nat) : Bool := (decide (L ≠ []) && L.all fun c => decide (48 ≤ c ∧ c ≤ 57)) && (decide (L.head? ≠ some 48) && decide (L.length ≤ 40))
def numR (w : Str) : Int := if isNumL (TL.tl w) then (NumText.digitsVal (TL.tl w) : Nat) else 0
def chR (p : Str) : Int × Int :=
  if (Txt.partition p "x").2.1 = Str.empty then (1, numR p)
  else if numR (Txt.partition p "x").1 = 1 then (0, 0)
  else (numR (Txt.partition p "x").1, numR (Txt.partition p "x").2.2)
def goR : List Str → Int → Option (List (Int × Int))
  | [], _ => some []
  | p :: ps, b => if (chR p).1 = 0 ∨ (chR p).2 = 0 ∨ (chR p).2 = b then none else (goR ps (chR p).2).map fun r => chR p :: r
def readR (t : Str) : Option (List Int) := if t = "empty" then some [] else (goR (Txt.split t " + ") 0).map spread
theorem digit_nat {c : Nat} (h : c < 128) : Unicode.isDigit c = decide (48 ≤ c ∧ c ≤ 57) := by
  have : ∀ c < 128, Unicode.isDigit c = decide (48 ≤ c ∧ c ≤ 57) := by decide +kernel
  exact this c h
theorem asc_dig (w : Str) : (Txt.isascii w && Txt.isdigit w) = (decide (TL.tl w ≠ []) && (TL.tl w).all fun c => decide (48 ≤ c ∧ c ≤ 57)) := by
  unfold Txt.isascii Txt.isdigit
  rw [← Array.all_toList, ← Array.all_toList, TL.len_tl, show w.cps.toList = TL.tl w from rfl]
  generalize TL.tl w = l
  have e0 : decide (l.length > 0) = decide (l ≠ []) := by cases l <;> simp
  rw [e0, ← Bool.and_assoc, Bool.and_comm (l.all _) (decide _), Bool.and_assoc]
  congr 1
  induction l with
  | nil => rfl
  | cons c r ih =>
    rw [List.all_cons, List.all_cons, List.all_cons]
    by_cases h : c < 128
    · rw [digit_nat h, decide_eq_true h, Bool.true_and, ← ih (by cases r <;> simp)]
      cases decide (48 ≤ c ∧ c ≤ 57) <;> cases r.all (fun x => decide (x < 128)) <;> rfl
    · rw [decide_eq_false h, Bool.false_and, Bool.false_and, decide_eq_false (by omega), Bool.false_and]
theorem numL_head : ∀ {n : Nat}, 1 ≤ n → (TL.numL n).head? ≠ some 48 := by
  intro n
  induction n using Nat.strongRecOn with
  | _ n ih =>
    intro h1
    rcases Nat.lt_or_ge n 10 with h | h
    · rw [TL.numL_lt h]
      intro z
      have := Option.some.inj z
      omega
    · rw [TL.numL_step h]
      have i := ih (n / 10) (Nat.div_lt_self (by omega) (by decide)) (by omega)
      have ne := TL.numL_ne (n / 10)
      cases hL : TL.numL (n / 10) with
      | nil => exact absurd hL ne
      | cons c r => rw [hL] at i; exact i
theorem numL_of : ∀ {L : List Nat}, L ≠ [] → NumText.AllDigits L → L.head? ≠ some 48 → 1 ≤ NumText.digitsVal L ∧ TL.numL (NumText.digitsVal L) = L := by
  intro L
  induction hn : L.length generalizing L with
  | zero => intro h; exact absurd (List.length_eq_zero_iff.mp hn) h
  | succ n ih =>
    intro hne hd hh
    obtain ⟨M, d, rfl⟩ : ∃ M d, L = M ++ [d] := ⟨L.dropLast, L.getLast hne, (List.dropLast_concat_getLast hne).symm⟩
    have hv : NumText.digitsVal (M ++ [d]) = NumText.digitsVal M * 10 + (d - 48) := by unfold NumText.digitsVal; rw [List.foldl_append]; rfl
    have hdd := hd d (by simp)
    by_cases e : M = []
    · subst e
      have hd48 : d ≠ 48 := fun z => hh (by rw [z]; rfl)
      rw [hv, show NumText.digitsVal [] = 0 from rfl, show 0 * 10 + (d - 48) = d - 48 by omega, TL.numL_lt (by omega)]
      exact ⟨by omega, by rw [show 48 + (d - 48) = d by omega]; rfl⟩
    · have hl : M.length = n := by rw [List.length_append] at hn; simpa using hn
      obtain ⟨a, b⟩ := ih hl e (fun c hc => hd c (by simp [hc])) (by
        cases M with
        | nil => exact absurd rfl e
        | cons c r => exact hh)
      rw [hv, TL.numL_step (by omega), show (NumText.digitsVal M * 10 + (d - 48)) / 10 = NumText.digitsVal M by omega, show (NumText.digitsVal M * 10 + (d - 48)) % 10 = d - 48 by omega, b, show 48 + (d - 48) = d by omega]
      exact ⟨by omega, rfl⟩
theorem isNum_digits {L : List Nat} (h : isNumL L = true) : L ≠ [] ∧ NumText.AllDigits L ∧ L.head? ≠ some 48 ∧ L.length ≤ 40 := by
  unfold isNumL at h
  simp only [Bool.and_eq_true, decide_eq_true_eq, List.all_eq_true] at h
  exact ⟨h.1.1, h.1.2, h.2.1, h.2.2⟩
theorem numR_nn (w : Str) : 0 ≤ numR w := by unfold numR; split <;> omega
/-- a number is written in one way -/
theorem numR_canon {w : Str} (h : numR w ≠ 0) : w = numS (numR w) ∧ 1 ≤ numR w := by
  unfold numR at h ⊢
  split at h
  · rename_i g
    rw [if_pos g]
    obtain ⟨a, b, c, _⟩ := isNum_digits g
    obtain ⟨d, e⟩ := numL_of a b c
    refine ⟨TL.ext_tl ?_, by omega⟩
    rw [numS_tl (by omega), Int.toNat_natCast, e]
  · exact absurd rfl h
theorem numR_numS {z : Int} (h1 : 1 ≤ z) (h2 : z < 10 ^ 40) : numR (numS z) = z := by
  unfold numR
  rw [numS_tl (by omega)]
  have g : isNumL (TL.numL z.toNat) = true := by
    unfold isNumL
    simp only [Bool.and_eq_true, decide_eq_true_eq, List.all_eq_true]
    exact ⟨⟨TL.numL_ne _, TL.numL_digits _⟩, numL_head (by omega), TL.numL_len (by decide) (by omega)⟩
  rw [if_pos g, TL.numL_val]
  omega
theorem chR_partS {m z : Int} (h1 : 1 ≤ m) (h2 : m < 10 ^ 40) (h3 : 1 ≤ z) (h4 : z < 10 ^ 40) : chR (partS m z) = (m, z) := by
  unfold chR partS
  by_cases e : m = 1
  · rw [if_pos e, part_one (by omega), if_pos rfl, numR_numS h3 h4, e]
  · rw [if_neg e, part_more (by omega), if_neg x_ne]
    show (if numR (numS m) = 1 then (0, 0) else (numR (numS m), numR (numS z))) = _
    rw [numR_numS h1 h2, numR_numS h3 h4, if_neg e]
/-- neighbours are unlike, also the first and b -/
def unlike (b : Int) : List (Int × Int) → Prop
  | [] => True
  | p :: r => p.2 ≠ b ∧ unlike p.2 r
def Good (ps : List (Int × Int)) : Prop := ∀ p ∈ ps, 1 ≤ p.1 ∧ p.1 < 10 ^ 40 ∧ 1 ≤ p.2 ∧ p.2 < 10 ^ 40
theorem goR_parts : ∀ {ps : List (Int × Int)} {b : Int}, Good ps → unlike b ps → goR (ps.map fun p => partS p.1 p.2) b = some ps
  | [], _, _, _ => rfl
  | p :: r, b, h, u => by
    obtain ⟨h1, h2, h3, h4⟩ := h p List.mem_cons_self
    rw [List.map_cons, goR, chR_partS h1 h2 h3 h4]
    have hn : ¬ (p.1 = 0 ∨ p.2 = 0 ∨ p.2 = b) := by
      rintro (z | z | z)
      · omega
      · omega
      · exact u.1 z
    rw [if_neg hn]
    show (goR (r.map fun p => partS p.1 p.2) p.2).map (fun q => p :: q) = _
    rw [goR_parts (fun q hq => h q (List.mem_cons_of_mem _ hq)) u.2]
    rfl
theorem readR_parts {ps : List (Int × Int)} (hn : ps ≠ []) (h : Good ps) (u : unlike 0 ps) (ne : Txt.join " + " (ps.map fun p => partS p.1 p.2) ≠ ("empty" : Str)) : readR (Txt.join " + " (ps.map fun p => partS p.1 p.2)) = some (spread ps) := by
  unfold readR
  rw [if_neg ne, split_parts (by simpa using hn) (fun p hp => by
    obtain ⟨q, hq, rfl⟩ := List.mem_map.mp hp
    have := h q hq
    exact partS_free (by omega) (by omega)), goR_parts h u]
  rfl
theorem par_sound (S : List Nat) : ∀ (L acc a b : List Nat), TL.par S acc L = some (a, b) → acc ++ L = a ++ (S ++ b)
  | [], acc, a, b, h => by rw [TL.par] at h; cases h
  | c :: r, acc, a, b, h => by
    rw [TL.par] at h
    split at h
    · rename_i g
      injection h with h
      injection h with h1 h2
      subst h1 h2
      rw [TL.pre] at g
      have e : List.take S.length (c :: r) = S := by simpa using g
      have := List.take_append_drop S.length (c :: r)
      rw [e] at this
      rw [this]
    · have := par_sound S r (acc ++ [c]) a b h
      rw [← this, List.append_assoc]; rfl
theorem part_cases (t : Str) : Txt.partition t "x" = (t, Str.empty, Str.empty) ∨ ∃ a b, Txt.partition t "x" = (a, ("x" : Str), b) ∧ t = a ++ "x" ++ b := by
  have ne : TL.tl ("x" : Str) ≠ [] := by rw [x_tl]; simp
  rw [TL.partition_par t "x" ne]
  cases h : TL.par (TL.tl ("x" : Str)) [] (TL.tl t) with
  | none => exact .inl rfl
  | some q =>
    obtain ⟨a, b⟩ := q
    refine .inr ⟨⟨a.toArray⟩, ⟨b.toArray⟩, rfl, TL.ext_tl ?_⟩
    have := par_sound _ _ _ _ _ h
    rw [TL.tl_append, TL.tl_append, TL.tl_mk, TL.tl_mk, List.append_assoc]
    exact this
theorem numR_zero {t : Str} (h : (Txt.isascii t && Txt.isdigit t) = false) : numR t = 0 := by
  unfold numR isNumL
  rw [asc_dig] at h
  rw [h]
  rfl
theorem one_zero {c : Nat} : ((⟨#[c]⟩ : Str) = ("0" : Str)) ↔ c = 48 := by
  constructor
  · intro h
    have := congrArg TL.tl h
    rw [TL.tl_ofString] at this
    have e : [c] = [48] := this
    injection e
  · rintro rfl
    apply TL.ext_tl
    rw [TL.tl_ofString]
    rfl
theorem spl_len (S : List Nat) : ∀ (L : List Nat) (k : Nat) (acc : List Nat), (TL.spl S k acc L).length ≤ L.length + 1
  | [], _, _ => by rw [TL.spl]; exact Nat.le_refl _
  | c :: r, 0, acc => by
    rw [TL.spl]
    split
    · have := spl_len S r (S.length - 1) []
      simp only [List.length_cons]; omega
    · have := spl_len S r 0 (acc ++ [c])
      simp only [List.length_cons]; omega
  | c :: r, k + 1, acc => by
    rw [TL.spl]
    have := spl_len S r k acc
    simp only [List.length_cons]; omega
theorem spl_mem (S : List Nat) : ∀ (L : List Nat) (k : Nat) (acc p : List Nat), p ∈ TL.spl S k acc L → p.length ≤ acc.length + L.length
  | [], _, acc, p, h => by rw [TL.spl, List.mem_singleton] at h; rw [h]; exact Nat.le_refl _
  | c :: r, 0, acc, p, h => by
    rw [TL.spl] at h
    split at h
    · rcases List.mem_cons.mp h with h | h
      · subst h; exact Nat.le_add_right _ _
      · have := spl_mem S r _ _ _ h
        simp only [List.length_cons, List.length_nil] at this ⊢; omega
    · have := spl_mem S r _ _ _ h
      simp only [List.length_cons, List.length_append, List.length_nil] at this ⊢; omega
  | c :: r, k + 1, acc, p, h => by
    rw [TL.spl] at h
    have := spl_mem S r _ _ _ h
    simp only [List.length_cons] at this ⊢; omega
theorem sep_kind (t : Str) : ¬ Builtin.Str.strKind t < Builtin.Str.strKind (" + " : Str) := TL.kind_ok (by decide +kernel)
theorem sep_ne : TL.tl (" + " : Str) ≠ [] := by rw [sep_tl]; simp
theorem split_len (t : Str) : (Txt.split t " + ").length ≤ t.length + 1 := by
  have := congrArg List.length (TL.split_spl t " + " sep_ne (sep_kind t))
  rw [List.length_map] at this
  rw [this, TL.len_tl]
  exact spl_len _ _ _ _
theorem split_mem {t p : Str} (h : p ∈ Txt.split t " + ") : p.length ≤ t.length := by
  have e := TL.split_spl t " + " sep_ne (sep_kind t)
  have m : TL.tl p ∈ TL.spl (TL.tl (" + " : Str)) 0 [] (TL.tl t) := by rw [← e]; exact List.mem_map.mpr ⟨p, h, rfl⟩
  have := spl_mem _ _ _ _ _ m
  rw [TL.len_tl, TL.len_tl]
  simpa using this
theorem chR_nn (p : Str) : 0 ≤ (chR p).1 ∧ 0 ≤ (chR p).2 := by
  unfold chR
  split
  · exact ⟨by show (0 : Int) ≤ 1; decide, numR_nn _⟩
  · split
    · exact ⟨Int.le_refl 0, Int.le_refl 0⟩
    · exact ⟨numR_nn _, numR_nn _⟩
theorem goR_nn : ∀ {parts : List Str} {b : Int} {ps : List (Int × Int)}, goR parts b = some ps → ∀ p ∈ ps, 0 ≤ p.1 ∧ 0 ≤ p.2
  | [], _, ps, h, p, hp => by
    rw [goR] at h
    injection h with h
    subst h
    cases hp
  | w :: r, b, ps, h, p, hp => by
    rw [goR] at h
    split at h
    · cases h
    · cases e : goR r (chR w).2 with
      | none => rw [e] at h; cases h
      | some q =>
        rw [e] at h
        have h' : chR w :: q = ps := Option.some.inj h
        subst h'
        rcases List.mem_cons.mp hp with hp | hp
        · rw [hp]; exact chR_nn w
        · exact goR_nn e p hp
theorem spread_app (a b : List (Int × Int)) : spread (a ++ b) = spread a ++ spread b := List.flatMap_append
theorem spread_take_succ {ps : List (Int × Int)} {i : Nat} {p : Int × Int} (h : ps[i]? = some p) : spread (ps.take (i + 1)) = spread (ps.take i) ++ List.replicate p.1.toNat p.2 := by
  rw [List.take_add_one, h, spread_app]
  congr 1
  show List.replicate p.1.toNat p.2 ++ [] = _
  rw [List.append_nil]
theorem spread_take_le (ps : List (Int × Int)) (i : Nat) : (spread (ps.take i)).length ≤ (spread ps).length := by
  have := congrArg (fun q => (spread q).length) (List.take_append_drop i ps)
  have e : (spread (ps.take i ++ ps.drop i)).length = (spread ps).length := this
  rw [spread_app, List.length_append] at e
  omega
theorem runs_rep : ∀ {n k : Nat} {x : Int} {L : List Int}, L.head? ≠ some x → runs k (List.replicate (n + 1) x ++ L) = ((k : Int) + n + 1, x) :: runs 0 L
  | 0, k, x, L, h => by
    show runs k (x :: L) = _
    rw [runs, if_neg h]; simp
  | n + 1, k, x, L, h => by
    show runs k (x :: (List.replicate (n + 1) x ++ L)) = _
    rw [runs, if_pos (by rw [List.replicate_succ]; rfl), runs_rep h]
    congr 2
    push_cast; omega
/-- the text of a book is read as the book -/
theorem unlike_runs : ∀ {ls : List Int} {k : Nat} {b : Int}, ls.head? ≠ some b → unlike b (runs k ls)
  | [], _, _, _ => trivial
  | x :: r, k, b, h => by
    rw [runs]
    split
    · rename_i e
      exact unlike_runs (by rw [e]; intro z; exact h (by rw [← Option.some.inj z]; rfl))
    · rename_i e
      exact ⟨fun z => h (by rw [← z]; rfl), unlike_runs e⟩
theorem readR_text {ls : List Int} (h : ∀ x ∈ ls, 1 ≤ x ∧ x < 10 ^ 40) (hl : ls.length < 10 ^ 9) : readR (textOf ls) = some ls := by
  cases ls with
  | nil => rfl
  | cons x r =>
    have ne := textOf_not_empty (x := x) (r := r) fun y hy => by have := h y hy; omega
    have e : textOf (x :: r) = Txt.join " + " ((runs 0 (x :: r)).map fun p => partS p.1 p.2) := if_neg (by simp)
    rw [e] at ne ⊢
    rw [readR_parts runs_ne (fun p hp => by
      have a := runs_mem hp
      have b := h _ a.2.2
      exact ⟨by omega, by omega, b.1, b.2⟩) (unlike_runs fun z => by
      have b := h x List.mem_cons_self
      have : x = 0 := Option.some.inj z
      omega) ne, runs_spread]
    rfl
theorem goR_text {ls : List Int} (hn : ls ≠ []) (h : ∀ x ∈ ls, 1 ≤ x ∧ x < 10 ^ 40) (hl : ls.length < 10 ^ 9) : goR (Txt.split (textOf ls) " + ") 0 = some (runs 0 ls) := by
  have e : textOf ls = Txt.join " + " ((runs 0 ls).map fun p => partS p.1 p.2) := if_neg hn
  have rn : runs 0 ls ≠ [] := by
    cases ls with
    | nil => exact absurd rfl hn
    | cons x r => exact runs_ne
  rw [e, split_parts (by simpa using rn) (fun p hp => by
    obtain ⟨q, hq, rfl⟩ := List.mem_map.mp hp
    have a := runs_mem hq
    have b := h _ a.2.2
    exact partS_free (by omega) (by omega))]
  refine goR_parts (fun p hp => by
    have a := runs_mem hp
    have b := h _ a.2.2
    exact ⟨by omega, by omega, b.1, b.2⟩) (unlike_runs fun z => ?_)
  cases ls with
  | nil => cases z
  | cons x r =>
    have b := h x List.mem_cons_self
    have : x = 0 := Option.some.inj z
    omega
end
namespace HS
open PySem PySem.Spec PyProof.Rows L2 _root_.HS
theorem Prs.at {H : Hp} : ∀ {vs : List V} {ps : List (Int × Int)}, Prs H vs ps → ∀ {i : Nat} {v : V}, vs[i]? = some v → ∃ t p, v = .ref t ∧ ps[i]? = some p ∧ H t = some (.tup [.int p.1, .int p.2])
  | [], [], _, i, v, hv => by simp at hv
  | _ :: _, p :: _, ⟨⟨t, e, o⟩, _⟩, 0, v, hv => by
    cases hv
    exact ⟨t, p, e, rfl, o⟩
  | _ :: _, _ :: _, ⟨_, h⟩, i + 1, v, hv => Prs.at h (i := i) hv
end HS
/-! The sheets of a book, page by page. -/
theorem pcount_take_le {ls : List Int} {j : Int} (hp : ∀ x ∈ ls, 1 ≤ x) (hj : 1 ≤ j) {a b : Nat} (h : a ≤ b) : pcount (ls.take a) j ≤ pcount (ls.take b) j := by
  obtain ⟨k, rfl⟩ : ∃ k, b = a + k := ⟨b - a, by omega⟩
  clear h
  induction k with
  | zero => exact Int.le_refl _
  | succ k ih =>
    refine Int.le_trans ih ?_
    cases e : ls[a + k]? with
    | none =>
      have hl : ls.length ≤ a + k := List.getElem?_eq_none_iff.mp e
      rw [List.take_of_length_le hl, List.take_of_length_le (by omega)]
      exact Int.le_refl _
    | some z =>
      rw [show a + (k + 1) = a + k + 1 by omega, pcount_take j e]
      have := ceil_pos (hp z (List.mem_of_getElem? e)) hj
      omega
theorem chap_uniq {ls : List Int} {j q : Int} (hp : ∀ x ∈ ls, 1 ≤ x) (hj : 1 ≤ j) {c c' : Nat} (h1 : pcount (ls.take c) j < q) (h2 : q ≤ pcount (ls.take (c + 1)) j) (g1 : pcount (ls.take c') j < q) (g2 : q ≤ pcount (ls.take (c' + 1)) j) : c = c' := by
  rcases Nat.lt_trichotomy c c' with h | h | h
  · have := pcount_take_le hp hj (show c + 1 ≤ c' by omega); omega
  · exact h
  · have := pcount_take_le hp hj (show c' + 1 ≤ c by omega); omega
/-- the page with number n, from 0 on: its chapter from 1 on, its first and its last line -/
def SheetAt (ls : List Int) (j n : Int) (t : Int × Int × Int) : Prop :=
  ∃ (c : Nat) (z : Int), ls[c]? = some z ∧ pcount (ls.take c) j ≤ n ∧ n < pcount (ls.take (c + 1)) j ∧ t = ((c : Int) + 1, (n - pcount (ls.take c) j) * j + 1, min ((n - pcount (ls.take c) j) * j + j) z)
/-- m lines of chapter i are set, which begins behind P pages -/
structure InCh (ls : List Int) (j : Int) (i : Nat) (P m : Int) (ts : List (Int × Int × Int)) : Prop where
  len : (ts.length : Int) = P + (m + j - 1) / j
  old : ∀ (n : Nat) t, ts[n]? = some t → (n : Int) < P → SheetAt ls j n t
  new : ∀ (n : Nat) t, ts[n]? = some t → P ≤ (n : Int) → t = ((i : Int) + 1, (n - P) * j + 1, min ((n - P) * j + j) m)
theorem ceil_mod0 {m j : Int} (hj : 1 ≤ j) (h : m % j = 0) : (m + j - 1) / j = m / j ∧ (m + 1 + j - 1) / j = m / j + 1 ∧ m / j * j = m := by
  have e := Int.mul_ediv_add_emod m j
  rw [h] at e
  generalize m / j = q at e ⊢
  have em : m = j * q := by omega
  subst em
  refine ⟨?_, ?_, Int.mul_comm q j⟩
  · rw [show j * q + j - 1 = (j - 1) + j * q by omega, Int.add_mul_ediv_left _ _ (by omega), Int.ediv_eq_zero_of_lt (by omega) (by omega)]; omega
  · rw [show j * q + 1 + j - 1 = 0 + j * (q + 1) by rw [Int.mul_add]; omega, Int.add_mul_ediv_left _ _ (by omega)]; simp
theorem ceil_mod1 {m j : Int} (hj : 1 ≤ j) (h : m % j ≠ 0) : (m + j - 1) / j = m / j + 1 ∧ (m + 1 + j - 1) / j = m / j + 1 ∧ m / j * j < m ∧ m + 1 ≤ m / j * j + j := by
  have e := Int.mul_ediv_add_emod m j
  have h0 := Int.emod_nonneg m (show j ≠ 0 by omega)
  have h1 := Int.emod_lt_of_pos m (show 0 < j by omega)
  rw [Int.mul_comm] at e
  generalize m / j = q at e ⊢
  generalize m % j = r at e h h0 h1
  subst e
  refine ⟨?_, ?_, by omega, by omega⟩
  · rw [show q * j + r + j - 1 = (r - 1) + j * (q + 1) by rw [Int.mul_add, Int.mul_comm j q]; omega, Int.add_mul_ediv_left _ _ (by omega), Int.ediv_eq_zero_of_lt (by omega) (by omega)]; omega
  · rw [show q * j + r + 1 + j - 1 = r + j * (q + 1) by rw [Int.mul_add, Int.mul_comm j q]; omega, Int.add_mul_ediv_left _ _ (by omega), Int.ediv_eq_zero_of_lt (by omega) (by omega)]; omega
theorem full_page {k q j m : Int} (hj : 1 ≤ j) (h : k + 1 ≤ q) (hm : q * j ≤ m) : k * j + j ≤ m := by
  have := Int.mul_le_mul_of_nonneg_right h (show 0 ≤ j by omega)
  rw [Int.add_mul] at this
  omega
theorem InCh.open {ls : List Int} {j : Int} {i : Nat} {P m : Int} {ts : List (Int × Int × Int)} (H : InCh ls j i P m ts) (hj : 1 ≤ j) (h : m % j = 0) (hP : 0 ≤ P) (hm : 0 ≤ m) : InCh ls j i P (m + 1) (ts ++ [((i : Int) + 1, m + 1, m + 1)]) := by
  obtain ⟨a, b, c⟩ := ceil_mod0 hj h
  have hl := H.len
  have q0 : 0 ≤ m / j := Int.ediv_nonneg hm (by omega)
  rw [a] at hl
  refine ⟨by rw [List.length_append, b]; push_cast; simp only [List.length_cons, List.length_nil]; omega, fun n t ht hn => ?_, fun n t ht hn => ?_⟩
  · rw [List.getElem?_append_left (by omega)] at ht
    exact H.old n t ht hn
  · by_cases e : n < ts.length
    · rw [List.getElem?_append_left e] at ht
      rw [H.new n t ht hn]
      have := full_page (k := (n : Int) - P) (q := m / j) (m := m) hj (by omega) (by omega)
      rw [Int.min_eq_left this, Int.min_eq_left (by omega)]
    · have en : n = ts.length := by
        have := (List.getElem?_eq_some_iff.mp ht).1
        rw [List.length_append, List.length_singleton] at this
        omega
      subst en
      rw [List.getElem?_append_right (Nat.le_refl _), Nat.sub_self] at ht
      have ht' := Option.some.inj ht
      subst ht'
      rw [show ((ts.length : Nat) : Int) - P = m / j by omega, c, Int.min_eq_right (by omega)]
theorem InCh.more {ls : List Int} {j : Int} {i : Nat} {P m : Int} {ts : List (Int × Int × Int)} {t0 : Int × Int × Int} (H : InCh ls j i P m (ts ++ [t0])) (hj : 1 ≤ j) (h : m % j ≠ 0) (hP : 0 ≤ P) (hm : 0 ≤ m) : InCh ls j i P (m + 1) (ts ++ [((i : Int) + 1, t0.2.1, m + 1)]) := by
  obtain ⟨a, b, c, d⟩ := ceil_mod1 hj h
  have hl := H.len
  rw [a, List.length_append, List.length_singleton] at hl
  push_cast at hl
  have q0 : 0 ≤ m / j := Int.ediv_nonneg hm (by omega)
  refine ⟨by rw [List.length_append, b, List.length_singleton]; push_cast; omega, fun n t ht hn => ?_, fun n t ht hn => ?_⟩
  · rw [List.getElem?_append_left (by omega)] at ht
    exact H.old n t (by rw [List.getElem?_append_left (by omega)]; exact ht) hn
  · by_cases e : n < ts.length
    · rw [List.getElem?_append_left e] at ht
      rw [H.new n t (by rw [List.getElem?_append_left e]; exact ht) hn]
      have := full_page (k := (n : Int) - P) (q := m / j) (m := m) hj (by omega) (by omega)
      rw [Int.min_eq_left this, Int.min_eq_left (by omega)]
    · have en : n = ts.length := by
        have := (List.getElem?_eq_some_iff.mp ht).1
        rw [List.length_append, List.length_singleton] at this
        omega
      subst en
      have h0 := H.new ts.length t0 (by rw [List.getElem?_append_right (Nat.le_refl _), Nat.sub_self]; rfl) (by omega)
      rw [List.getElem?_append_right (Nat.le_refl _), Nat.sub_self] at ht
      have ht' := Option.some.inj ht
      subst ht'
      have hx : min (m / j * j + j) (m + 1) = m + 1 := Int.min_eq_right d
      rw [h0, show ((ts.length : Nat) : Int) - P = m / j by omega, hx]
theorem InCh.sheets {ls : List Int} {j : Int} {i : Nat} {z : Int} {ts : List (Int × Int × Int)} (hz : ls[i]? = some z) (H : InCh ls j i (pcount (ls.take i) j) z ts) :
    (ts.length : Int) = pcount (ls.take (i + 1)) j ∧ ∀ (n : Nat) t, ts[n]? = some t → SheetAt ls j n t := by
  have e := pcount_take j hz
  refine ⟨by rw [H.len, e], fun n t ht => ?_⟩
  by_cases hn : (n : Int) < pcount (ls.take i) j
  · exact H.old n t ht hn
  · have hl := (List.getElem?_eq_some_iff.mp ht).1
    have := H.len
    exact ⟨i, z, hz, by omega, by omega, H.new n t ht (by omega)⟩
theorem InCh.start {ls : List Int} {j : Int} {i : Nat} {P : Int} {ts : List (Int × Int × Int)} (hj : 1 ≤ j) (hl : (ts.length : Int) = P) (h : ∀ (n : Nat) t, ts[n]? = some t → SheetAt ls j n t) : InCh ls j i P 0 ts :=
  ⟨by rw [show (0 + j - 1) / j = 0 from Int.ediv_eq_zero_of_lt (by omega) (by omega)]; omega, fun n t ht _ => h n t ht, fun n t ht hn => by have := (List.getElem?_eq_some_iff.mp ht).1; omega⟩
theorem pcount_small {j B : Int} (hj : 1 ≤ j) : ∀ {xs : List Int}, (∀ x ∈ xs, 1 ≤ x ∧ x ≤ B) → pcount xs j ≤ B * xs.length
  | [], _ => by rw [pcount_nil]; simp
  | x :: r, h => by
    have hx := h x List.mem_cons_self
    have ih := pcount_small hj (xs := r) fun y hy => h y (List.mem_cons_of_mem _ hy)
    rw [pcount_cons, List.length_cons]
    have : (x + j - 1) / j ≤ x := (ceil_le hj).mpr (by have := Int.mul_le_mul_of_nonneg_left hj (show 0 ≤ x by omega); omega)
    push_cast
    rw [Int.mul_add, Int.mul_one]
    omega
theorem page_here {k j s : Int} (hj : 1 ≤ j) (h1 : k * j + 1 ≤ s) (h2 : s ≤ k * j + j) : (s + j - 1) / j = k + 1 := by
  have a : (s + j - 1) / j ≤ k + 1 := (ceil_le hj).mpr (by rw [Int.add_mul]; omega)
  have b := ceil_up (x := s) hj
  rcases Int.lt_or_le ((s + j - 1) / j) (k + 1) with h | h
  · have := Int.mul_le_mul_of_nonneg_right (show (s + j - 1) / j ≤ k by omega) (show 0 ≤ j by omega)
    omega
  · omega
/-- the first line of the page of a line -/
theorem first_line {s j : Int} (hj : 1 ≤ j) (hs : 1 ≤ s) : ((s + j - 1) / j - 1) * j + 1 = s - (s - 1) % j := by
  have e : (s + j - 1) / j = (s - 1) / j + 1 := by rw [show s + j - 1 = (s - 1) + j * 1 by omega, Int.add_mul_ediv_left _ _ (by omega)]
  have m := Int.mul_ediv_add_emod (s - 1) j
  rw [e, show (s - 1) / j + 1 - 1 = (s - 1) / j by omega, Int.mul_comm]
  omega
theorem pcount_repl (x j : Int) : ∀ n : Nat, pcount (List.replicate n x) j = n * ((x + j - 1) / j)
  | 0 => by rw [show pcount (List.replicate 0 x) j = 0 from rfl]; simp
  | n + 1 => by
    rw [List.replicate_succ, pcount_cons, pcount_repl x j n]
    push_cast
    rw [Int.add_mul, Int.one_mul]; omega
/-- so many chapters of one length, one line, and as many again -/
def lots (m : Nat) (x : Int) : List Int := List.replicate m x ++ 1 :: List.replicate m x
theorem lots_len (m : Nat) (x : Int) : (lots m x).length = 2 * m + 1 := by
  unfold lots
  rw [List.length_append, List.length_cons, List.length_replicate]
  omega
theorem lots_at {m : Nat} {x : Int} {i : Nat} (h : i < 2 * m + 1) : (lots m x)[i]? = some (if i = m then 1 else x) := by
  unfold lots
  by_cases h1 : i < m
  · rw [List.getElem?_append_left (by rw [List.length_replicate]; exact h1), List.getElem?_replicate, if_pos h1, if_neg (by omega)]
  · rw [List.getElem?_append_right (by rw [List.length_replicate]; omega), List.length_replicate]
    by_cases h2 : i = m
    · rw [h2, Nat.sub_self, if_pos rfl]; rfl
    · rw [if_neg h2, show i - m = (i - m - 1) + 1 by omega, List.getElem?_cons_succ, List.getElem?_replicate, if_pos (by omega)]
theorem lots_take {m : Nat} {x j : Int} {i : Nat} (hj : 1 ≤ j) (h : i ≤ 2 * m + 1) : pcount ((lots m x).take i) j = if i ≤ m then (i : Int) * ((x + j - 1) / j) else ((i : Int) - 1) * ((x + j - 1) / j) + 1 := by
  unfold lots
  have one : ((1 : Int) + j - 1) / j = 1 := by rw [show (1 : Int) + j - 1 = j by omega, Int.ediv_self (by omega)]
  rw [List.take_append, List.length_replicate, pcount_append, List.take_replicate, pcount_repl]
  by_cases h1 : i ≤ m
  · rw [if_pos h1, Nat.min_eq_left h1, show i - m = 0 by omega, List.take_zero, pcount_nil, Int.add_zero]
  · obtain ⟨k, rfl⟩ : ∃ k, i = m + 1 + k := ⟨i - m - 1, by omega⟩
    rw [if_neg h1, show m + 1 + k - m = k + 1 by omega, List.take_succ_cons, pcount_cons, one, List.take_replicate, pcount_repl, Nat.min_eq_right (by omega), Nat.min_eq_left (by omega)]
    push_cast
    rw [show (m : Int) + 1 + k - 1 = m + k by omega, Int.add_mul]
    omega
open PySem in
theorem lots_text {m : Nat} {x : Int} (hm : 2 ≤ m) (hx : 2 ≤ x) : textOf (lots m x) = numS m ++ "x" ++ numS x ++ " + 1 + " ++ numS m ++ "x" ++ numS x := by
  obtain ⟨n, rfl⟩ : ∃ n, m = n + 1 := ⟨m - 1, by omega⟩
  have r : runs 0 (lots (n + 1) x) = [((n : Int) + 1, x), (1, 1), ((n : Int) + 1, x)] := by
    unfold lots
    have a := runs_rep (n := n) (k := 0) (x := x) (L := 1 :: List.replicate (n + 1) x) (by intro z; have : (1 : Int) = x := Option.some.inj z; omega)
    have b : runs 0 (1 :: List.replicate (n + 1) x) = (1, 1) :: runs 0 (List.replicate (n + 1) x) := by
      rw [runs, if_neg (by rw [List.replicate_succ]; intro z; have : x = 1 := Option.some.inj z; omega)]; rfl
    have c := runs_rep (n := n) (k := 0) (x := x) (L := []) (by simp)
    rw [List.append_nil] at c
    rw [a, b, c]
    simp [runs]
  have nn : lots (n + 1) x ≠ [] := by unfold lots; simp
  rw [show textOf (lots (n + 1) x) = Txt.join " + " (partsOf (lots (n + 1) x)) from if_neg nn]
  unfold partsOf
  rw [r, TL.join_eq]
  apply TL.ext_tl
  have p1 : partS ((n : Int) + 1) x = numS ((n + 1 : Nat) : Int) ++ "x" ++ numS x := by unfold partS; rw [if_neg (by omega)]; push_cast; rfl
  have p2 : partS 1 1 = numS 1 := if_pos rfl
  have mid : TL.tl (" + 1 + " : Str) = [32, 43, 32, 49, 32, 43, 32] := by rw [TL.tl_ofString]; rfl
  have t1 : TL.tl (numS 1) = [49] := by rw [numS_tl (by decide), TL.numL_lt (by decide)]; rfl
  rw [TL.tl_join, sep_tl]
  show TL.joinL [32, 43, 32] [TL.tl (partS ((n : Int) + 1) x), TL.tl (partS 1 1), TL.tl (partS ((n : Int) + 1) x)] = _
  rw [p1, p2, t1, TL.joinL, TL.joinL, TL.joinL]
  simp only [TL.tl_append, mid, List.append_assoc, List.cons_append, List.nil_append]
open PySem in
theorem mid_len : (" + 1 + " : Str).length = 7 := by rw [TL.len_tl, TL.tl_ofString]; rfl

section
variable {P : Program} {w : World} {K : PySem.W.Frag} {mg : Str → Option Value} {base : Heap} {A : Ad}
def sp__law_source (K : PySem.W.Frag) : Sp := fun vs H Q _ => ∃ (a : Addr) (ns : List Int), vs = [.ref a] ∧ (SqL K H a (ns.map V.int) ∧ ns.length ≤ 63 ∧ ∀ H' s d, HS.Keep (fun _ => False) H H' → H s = none → H d = none → Src H' s d 0 → Q (.ref s) H')
theorem ok__law_source (T : Txt K mg A) : FnOk P w K mg base CX0 1 A.a__law_source A.d__law_source ["script"] (sp__law_source K) := by
  refine T.F__law_source.ok sc__law_source (fun vs H Q E h => ?_) (fun cdv A0 outer s H vs Q E hr h => ?_)
  · obtain ⟨a, ns, rfl, hw⟩ := h
    rfl
  · obtain ⟨a, ns, rfl, hw⟩ := h
    refine ⟨_, (pss_cons (ps_set (i := 1) sc__law_source.nd rfl (.inl rfl) pe_int)
    (pss_cons (ps_set (i := 2) sc__law_source.nd rfl (.inl rfl) (pe_lst pa_nil))
    (pss_cons (ps_for PassesOwn.never rfl (HS.kil K (pi_list (pv 0))) (pg_name (i := 3) sc__law_source.nd rfl (.inl rfl))
      (pss_cons (ps_set (i := 1) sc__law_source.nd rfl (.inl rfl) (pe_op op_mod (pe_op op_add (pe_op op_mul (pv 1) pe_int) (pv 3)) (HS.pe_fold (2305843009213693951) (pe_op op_sub (pe_op op_pow pe_int pe_int) pe_int) (by intro σ H Q q; walk_at "fold"))))
    (pss_cons (ps_set (i := 4) sc__law_source.nd rfl (.inl rfl) (pe_callB (call_max2 rfl) (by rfl) T.z_max (by decide +kernel) (pa_cons (pv 3) (pa_cons (pe_op op_sub pe_int (pv 3)) pa_nil))))
    (pss_one (ps_if (pt_cmpR op_ge (pv 4) (HS.pe_fold (1000000000000000000) (pe_op op_pow pe_int pe_int) (by intro σ H Q q; walk_at "fold")) (nomark _))
      (pss_one (ps_expr (HS.kbm K (pe_bm PySem.F.plainAttrs_list PySem.F.slot_list_append PySem.F.type_list_append mt_append (pv 2) (pa_cons (pe_op op_sub (pv 4) (HS.pe_fold (1000000000000000000) (pe_op op_pow pe_int pe_int) (by intro σ H Q q; walk_at "fold"))) pa_nil)))))
      pss_nil)))))
    (pss_one (ps_ret (pe_lst (pa_cons (pv 2) (pa_cons pe_int (pa_cons (pv 1) (pa_cons pe_int pa_nil)))))))))), ?_⟩
    obtain ⟨hS, hl, k⟩ := hw
    walk_at "hs"
    intro d hd
    walk_at "hs"
    refine ⟨⟨_, HS.Keep.sq (S := fun _ => False) (HS.Keep.new hd) hS id⟩, for_list (xs := ns.map V.int) (fun i σ H1 => HS.Keep (fun _ => False) H H1 ∧ ∃ (gs : List Int) (m : Int) (x3 x4 : Option V), σ = [some (.ref a), some (.int m), some (.ref d), x3, x4] ∧ H1 d = some (.lst (gs.map V.int)) ∧ (∀ x ∈ gs, 0 ≤ x) ∧ gs.length ≤ i ∧ 0 ≤ m ∧ m < 2 ^ 61) ?_ ?_ ?_ ?_⟩
    · exact ⟨.new hd, [], _, _, _, rfl, upd_same, by simp, Nat.le_refl _, by decide, by decide⟩
    · rintro i σ H1 _ ⟨K1, _⟩
      exact K1.sq hS id
    · rintro i x σ H1 hi ⟨K1, gs, m, x3, x4, rfl, hgd, hg0, hgl, hm0, hm1⟩
      obtain ⟨z, rfl, _, hil⟩ := HS.get_int hi
      walk_at "hs"
      have b0 : 0 ≤ (m * 1000033 + z) % 2305843009213693951 := Int.emod_nonneg _ (by decide)
      have b1 : (m * 1000033 + z) % 2305843009213693951 < 2 ^ 61 := Int.lt_trans (Int.emod_lt_of_pos _ (by decide)) (by decide)
      generalize hz : (if 0 - z > z then 0 - z else z) = y
      refine HS.itd (fun hy => ?_) (fun hy => ?_)
      · walk_at "hs"
        refine ⟨K1.put hd, gs ++ [y - 1000000000000000000], _, _, _, rfl, ?_, ?_, by simp; omega, b0, b1⟩
        · rw [upd_same, List.map_append]; rfl
        · intro x hx
          rcases List.mem_append.mp hx with hx | hx
          · exact hg0 x hx
          · rw [List.mem_singleton] at hx; omega
      · walk_at "hs"
        exact ⟨K1, gs, _, _, _, rfl, hgd, hg0, by omega, b0, b1⟩
    · rintro σ H1 ⟨K1, gs, m, x3, x4, rfl, hgd, hg0, hgl, hm0, hm1⟩
      walk_at "hs"
      intro s hs
      rw [List.length_map] at hgl
      refine k _ s d (K1.trans (.new hs)) (K1.free hs id) hd ⟨(ne_of_none hgd hs).symm, gs, 0, m, 0, upd_same, by walk_at "hp", hg0, by omega, by decide, hm0, hm1, by decide, by decide⟩
def sp__law_draw (K : PySem.W.Frag) : Sp := fun vs H Q _ => ∃ (s d : Addr) (many : Int) (n : Nat), vs = [.ref s, .int many] ∧ (Src H s d n ∧ 0 < many ∧ many < 2 ^ 200 ∧ n < 2 ^ 40 ∧ ∀ H' v, HS.Keep (fun a => a = s ∨ a = d) H H' → Src H' s d (n + 1) → 0 ≤ v → v < many → Q (.int v) H')
theorem ok__law_draw (T : Txt K mg A) : FnOk P w K mg base CX0 1 A.a__law_draw A.d__law_draw ["source", "many"] (sp__law_draw K) := by
  refine T.F__law_draw.ok sc__law_draw (fun vs H Q E h => ?_) (fun cdv A0 outer s H vs Q E hr h => ?_)
  · obtain ⟨s, d, many, n, rfl, hw⟩ := h
    rfl
  · obtain ⟨s, d, many, n, rfl, hw⟩ := h
    refine ⟨_, (Evl.pss_cut (ps_while PassesOwn.never (PW.pt (pw_and (pt_cmpR op_lt (pe_ix (HS.ixl K) (pv 0) pe_int (fun _ _ => rfl)) pe_int (nomark _)) (pw_and1 (pt_cmpR (HS.kne K (hu64 hr)) (pe_ix (HS.ixl K) (pv 0) pe_int (fun _ _ => rfl)) (pe_lst pa_nil) (nomark _)))))
      (pss_one (ps_asg (HS.kbm K (pe_bm PySem.F.plainAttrs_list PySem.F.slot_list_pop PySem.F.type_list_pop mt_popAt (pe_ix (HS.ixl K) (pv 0) pe_int (fun _ _ => rfl)) (pa_cons pe_int pa_nil))) (pg_sub (pv 0) pe_int set_list))))
    (pss_cons (ps_if (pt_cmpR op_ge (pe_ix (HS.ixl K) (pv 0) pe_int (fun _ _ => rfl)) pe_int (nomark _))
      (pss_cons (ps_set (i := 2) sc__law_draw.nd rfl (.inl rfl) (pe_op op_mod (pe_ix (HS.ixl K) (pv 0) pe_int (fun _ _ => rfl)) (pv 1)))
    (pss_cons (ps_asg (pe_op op_fdivW (pe_ix (HS.ixl K) (pv 0) pe_int (fun _ _ => rfl)) (pv 1)) (pg_sub (pv 0) pe_int set_list))
    (pss_one (ps_ret (pv 2)))))
      pss_nil)
    (pss_cons (ps_asg (pe_op op_add (pe_ix (HS.ixl K) (pv 0) pe_int (fun _ _ => rfl)) pe_int) (pg_sub (pv 0) pe_int set_list))
    (pss_cons (ps_set (i := 3) sc__law_draw.nd rfl (.inl rfl) (pe_op op_mulW (pe_op op_add (pe_ix (HS.ixl K) (pv 0) pe_int (fun _ _ => rfl)) pe_int) (pe_op op_pow (pe_op op_add (pe_ix (HS.ixl K) (pv 0) pe_int (fun _ _ => rfl)) pe_int) pe_int)))
    (pss_cons (ps_set (i := 3) sc__law_draw.nd rfl (.inl rfl) (pe_op op_mod (pe_op op_add (pv 3) (pe_op op_mul pe_int (pe_ix (HS.ixl K) (pv 0) pe_int (fun _ _ => rfl)))) (HS.pe_fold (2305843009213693951) (pe_op op_sub (pe_op op_pow pe_int pe_int) pe_int) (by intro σ H Q q; walk_at "fold"))))
    (pss_one (ps_ret (pe_op op_mod (pe_op op_fdivW (pe_op op_mod (pe_op op_pow (pv 3) pe_int) (HS.pe_fold (1000000000000000009) (pe_op op_add (pe_op op_pow pe_int pe_int) pe_int) (by intro σ H Q q; walk_at "fold"))) pe_int) (pv 1))))))))), ?_⟩
    obtain ⟨S0, hm0, hm1, hn, k⟩ := hw
    obtain ⟨hsd, gs0, l0, m0, c0, hs0, hd0, hg0, hgl0, hl0, hm00, hm01, hc0, hc1⟩ := S0
    refine HS.cut (fun σ H1 => σ = [some (.ref s), some (.int many), none, none] ∧ HS.Keep (fun a => a = s ∨ a = d) H H1 ∧ ∃ (gs : List Int) (l : Int), H1 s = some (.lst [.ref d, .int l, .int m0, .int c0]) ∧ H1 d = some (.lst (gs.map V.int)) ∧ (∀ x ∈ gs, 0 ≤ x) ∧ gs.length ≤ 63 ∧ 0 ≤ l) ?_ ?_
    · refine ⟨fun j σ H1 => σ = [some (.ref s), some (.int many), none, none] ∧ HS.Keep (fun a => a = s ∨ a = d) H H1 ∧ ∃ (gs : List Int) (l : Int), gs.length = j ∧ H1 s = some (.lst [.ref d, .int l, .int m0, .int c0]) ∧ H1 d = some (.lst (gs.map V.int)) ∧ (∀ x ∈ gs, 0 ≤ x) ∧ gs.length ≤ 63 ∧ 0 ≤ l, ⟨_, rfl, .refl, gs0, l0, rfl, hs0, hd0, hg0, hgl0, hl0⟩, ?_⟩
      rintro j σ H1 ⟨rfl, K1, gs, l, rfl, hs1, hd1, hg1, hgl1, hl1⟩
      walk_at "hs"
      refine HS.itd (fun hl => ?_) (fun hl => ?_)
      · walk_at "hs"
        intro p hp
        refine HS.neL (ys := []) (HS.sq (by walk_at "hp")) (HS.sq upd_same) ?_
        walk_at "hs"
        refine HS.itn (fun hgs => ?_) (fun hgs => ?_)
        · cases gs with
          | nil => exact absurd rfl hgs
          | cons y ys =>
            refine ⟨fun σ' H' => σ' = [some (.ref s), some (.int many), none, none] ∧ HS.Keep (fun a => a = s ∨ a = d) H H' ∧ ∃ (l : Int), H' s = some (.lst [.ref d, .int l, .int m0, .int c0]) ∧ H' d = some (.lst (ys.map V.int)) ∧ 0 ≤ l, fun σ' H' ⟨e, K', l', h1, h2, h3⟩ => ⟨ys.length, Nat.lt_succ_self _, e, K', ys, l', rfl, h1, h2, fun x hx => hg1 x (List.mem_cons_of_mem _ hx), Nat.le_of_succ_le hgl1, h3⟩, ?_⟩
            walk_at "hs"
            refine HS.pop0 (y := .int y) (ys := ys.map V.int) (by walk_at "hp") ?_
            walk_at "hs"
            exact ⟨rfl, by walk_at "kp", y, by walk_at "hp", by walk_at "hp", hg1 y List.mem_cons_self⟩
        · walk_at "hs"
          exact ⟨rfl, by walk_at "kp", gs, l, by walk_at "hp", by walk_at "hp", hg1, hgl1, hl1⟩
      · walk_at "hs"
        exact ⟨rfl, K1, gs, l, hs1, hd1, hg1, hgl1, hl1⟩
    · rintro σ H1 ⟨rfl, K1, gs, l, hs1, hd1, hg1, hgl1, hl1⟩
      walk_at "hs"
      refine HS.itd (fun hl => ?_) (fun hl => ?_)
      · walk_at "hs"
        refine ⟨HS.divW 200 hm0 hm1 (by decide) (by decide), ?_⟩
        walk_at "hs"
        exact k _ _ (by walk_at "kp") ⟨hsd, gs, l / many, m0, c0, upd_same, by walk_at "hp", hg1, hgl1, Int.ediv_nonneg hl1 (by omega), hm00, hm01, hc0, by omega⟩ (Int.emod_nonneg _ (by omega)) (Int.emod_lt_of_pos _ hm0)
      · walk_at "hs"
        obtain ⟨p0, p1⟩ := HS.pow_lt (i := c0 + 1 + 3) (a := 50) 3 (by omega) (by omega)
        have p2 : (c0 + 1 + 3) ^ Int.toNat 3 < 2 ^ 150 := by
          rcases p1 with h | h
          · exact h
          · exact absurd h (by decide)
        have p0' : 0 ≤ (c0 + 1 + 3) ^ Int.toNat 3 := p0
        generalize (c0 + 1 + 3) ^ Int.toNat 3 = cu at p2 p0' ⊢
        refine ⟨HS.mulW 62 150 (by omega) (by omega) p0' p2 (by decide) (by decide) (by decide), ?_⟩
        walk_at "hs"
        exact k _ _ (by walk_at "kp") ⟨hsd, gs, l, m0, c0 + 1, upd_same, by walk_at "hp", hg1, hgl1, hl1, hm00, hm01, by omega, by omega⟩ (Int.emod_nonneg _ (by omega)) (Int.emod_lt_of_pos _ hm0)
def sp__law_lengths (K : PySem.W.Frag) : Sp := fun vs H Q _ => ∃ (s d : Addr) (many : Int) (n : Nat), vs = [.ref s, .int many] ∧ (Src H s d n ∧ 0 ≤ many ∧ many ≤ 1000 ∧ n < 2 ^ 39 ∧ ∀ H' p (ls : List Int), HS.Keep (fun a => a = s ∨ a = d) H H' → H p = none → H' p = some (.lst (ls.map V.int)) → ls.length ≤ many → Book ls → Src H' s d (n + 2 + 2 * ls.length) → Q (.ref p) H')
theorem ok__law_lengths (T : Txt K mg A) : FnOk P w K mg base CX0 2 A.a__law_lengths A.d__law_lengths ["source", "many"] (sp__law_lengths K) := by
  have G__law_draw : FnOk P w K mg base CX0 1 A.a__law_draw A.d__law_draw ["source", "many"] (sp__law_draw K) := ok__law_draw T
  refine T.F__law_lengths.ok sc__law_lengths (fun vs H Q E h => ?_) (fun cdv A0 outer s H vs Q E hr h => ?_)
  · obtain ⟨s, d, many, n, rfl, hw⟩ := h
    rfl
  · obtain ⟨s, d, many, n, rfl, hw⟩ := h
    refine ⟨_, (pss_cons (ps_set (i := 2) sc__law_lengths.nd rfl (.inr rfl) (pe_ix (HS.ixl K) (pe_lst (pa_cons pe_int (pa_cons pe_int (pa_cons pe_int (pa_cons pe_int (pa_cons (HS.pe_fold (999999999999999999999999999999) (pe_op op_sub (pe_op op_pow pe_int pe_int) pe_int) (by intro σ H Q q; walk_at "fold")) pa_nil)))))) (pe_call G__law_draw hr (by rfl) T.g__law_draw T.F__law_draw.kp T.b__law_draw .nil pass0 (pa_cons (pv 0) (pa_cons pe_int pa_nil))) (fun _ _ => rfl)))
    (pss_one (ps_ret (pe_lc (own := [("part", 3)]) (g := gName 3) (tt := tYes) rfl sc__law_lengths.nd (pi_range1 (by rfl) T.z_range (pa_cons (pe_call G__law_draw hr (by rfl) T.g__law_draw T.F__law_draw.kp T.b__law_draw .nil pass0 (pa_cons (pv 0) (pa_cons (pe_op op_add (pv 1) pe_int) pa_nil))) pa_nil)) (blkOk_by (own := [("part", 3)]) (N := N__law_lengths) (sc := defScope s__law_lengths) (by decide +kernel)) (fun _ _ _ _ _ => pg_name (i := 3) sc__law_lengths.nd rfl (by first | exact .inl rfl | exact .inr rfl)) (fun _ _ _ _ _ => pts_nil) (fun _ _ _ _ _ => (pe_op op_add pe_int (pe_call G__law_draw hr (by rfl) T.g__law_draw T.F__law_draw.kp T.b__law_draw .nil pass0 (pa_cons (pv 0) (pa_cons (pe_ix (HS.ixl K) (pe_lst (pa_cons (pv 2) (pa_cons (pv 2) (pa_cons pe_int pa_nil)))) (pe_call G__law_draw hr (by rfl) T.g__law_draw T.F__law_draw.kp T.b__law_draw .nil pass0 (pa_cons (pv 0) (pa_cons pe_int pa_nil))) (fun _ _ => rfl)) pa_nil))))))))), ?_⟩
    obtain ⟨S0, hm0, hm1, hn, k⟩ := hw
    walk_at "hs"
    intro p1 hp1
    have e1 := S0.ne1 hp1
    have e2 := S0.ne2 hp1
    walk_at "hs"
    refine ⟨s, d, 5, n, rfl, S0.new hp1, by decide, by decide, by omega, fun H2 v K2 S2 v0 v1 => ?_⟩
    refine HS.ixI [1, 3, 9, 300, 999999999999999999999999999999] (K2.sq (HS.sq upd_same) (by walk_at "ns")) v0 v1 fun wd _ hw => ?_
    have hwd : 1 ≤ wd ∧ wd < 10 ^ 30 := by
      simp only [List.mem_cons, List.not_mem_nil, or_false] at hw
      omega
    have K2' : HS.Keep (fun a => a = s ∨ a = d) H H2 := HS.Keep.trans (HS.Keep.new hp1) K2
    walk_at "hs"
    refine ⟨s, d, many + 1, n + 1, rfl, S2, by omega, by omega, by omega, fun H3 cnt K3 S3 c0 c1 => ?_⟩
    walk_at "hs"
    refine ⟨by omega, by omega, fun D hD => ?_⟩
    have e3 := S3.ne1 hD
    have e4 := S3.ne2 hD
    have hD0 : H D = none := (K2'.trans K3).free hD (by walk_at "ns")
    refine lc_range (lo := 0) (n := cnt.toNat) (fun i H' => HS.Keep (fun a => a = s ∨ a = d) H H' ∧ ∃ ls : List Int, H' D = some (.lst (ls.map V.int)) ∧ ls.length = i ∧ Book ls ∧ Src H' s d (n + 2 + 2 * i)) ?_ ?_ ?_
    · exact ⟨(K2'.trans K3).put hD0, [], upd_same, rfl, fun x hx => absurd hx List.not_mem_nil, S3.new hD⟩
    · rintro i H4 hi ⟨K4, ls, hl, hll, hb, S4⟩
      walk_at "hs"
      intro p2 hp2
      have e5 := S4.ne1 hp2
      have e6 := S4.ne2 hp2
      walk_at "hs"
      refine ⟨s, d, 3, _, rfl, S4.new hp2, by decide, by decide, by omega, fun H5 v K5 S5 v0 v1 => ?_⟩
      refine HS.ixI [wd, wd, 4] (K5.sq (HS.sq upd_same) (by walk_at "ns")) v0 v1 fun wx _ hw => ?_
      have hwx : 1 ≤ wx ∧ wx < 10 ^ 30 := by
        simp only [List.mem_cons, List.not_mem_nil, or_false] at hw
        omega
      walk_at "hs"
      refine ⟨s, d, wx, _, rfl, S5, by omega, by omega, by omega, fun H6 u K6 S6 u0 u1 => ?_⟩
      walk_at "hs"
      have K46 : HS.Keep (fun a => a = s ∨ a = d) H4 H6 := (HS.Keep.new hp2).trans (K5.trans K6)
      have hl6 := K46 _ _ hl (by walk_at "ns")
      refine ⟨_, hl6, HS.sz (by walk_at "len"), (K4.trans K46).put hD0, ls ++ [1 + u], by rw [upd_same, List.map_append]; rfl, by walk_at "len", ?_, (S6.put e3 e4).up (by omega)⟩
      intro x hx
      rcases List.mem_append.mp hx with hx | hx
      · exact hb x hx
      · rw [List.mem_singleton] at hx; omega
    · rintro H4 ⟨K4, ls, hl, hll, hb, S4⟩
      refine k _ _ _ K4 hD0 hl (by omega) hb (S4.up (by omega))
def sp__law_wide (K : PySem.W.Frag) : Sp := fun vs H Q _ => ∃ (s d b : Addr) (ls : List Int) (n : Nat), vs = [.ref s, .ref b] ∧ (Src H s d n ∧ SqL K H b (ls.map V.int) ∧ b ≠ s ∧ b ≠ d ∧ ls.length ≤ 1000 ∧ Book ls ∧ n < 2 ^ 39 ∧ ∀ H' v, HS.Keep (fun a => a = s ∨ a = d) H H' → Src H' s d (n + 6) → 1 ≤ v → v < 10 ^ 30 → Q (.int v) H')
theorem ok__law_wide (T : Txt K mg A) : FnOk P w K mg base CX0 2 A.a__law_wide A.d__law_wide ["source", "lengths"] (sp__law_wide K) := by
  have G__law_draw : FnOk P w K mg base CX0 1 A.a__law_draw A.d__law_draw ["source", "many"] (sp__law_draw K) := ok__law_draw T
  refine T.F__law_wide.ok sc__law_wide (fun vs H Q E h => ?_) (fun cdv A0 outer s H vs Q E hr h => ?_)
  · obtain ⟨s, d, b, ls, n, rfl, hw⟩ := h
    rfl
  · obtain ⟨s, d, b, ls, n, rfl, hw⟩ := h
    refine ⟨_, (pss_cons (ps_set (i := 2) sc__law_wide.nd rfl (.inl rfl) (pe_ifExp (pt_cmpR (HS.kne K (hu64 hr)) (pv 1) (pe_lst pa_nil) (nomark _)) (pe_ix (HS.ixl K) (pv 1) (pe_call G__law_draw hr (by rfl) T.g__law_draw T.F__law_draw.kp T.b__law_draw .nil pass0 (pa_cons (pv 0) (pa_cons (pe_callB (HS.klen K) (by rfl) T.z_len PySem.boot_len (pa_cons (pv 1) pa_nil)) pa_nil))) (fun _ _ => rfl)) pe_int))
    (pss_cons (ps_set (i := 3) sc__law_wide.nd rfl (.inl rfl) (pe_lst (pa_cons (pe_op op_add pe_int (pe_call G__law_draw hr (by rfl) T.g__law_draw T.F__law_draw.kp T.b__law_draw .nil pass0 (pa_cons (pv 0) (pa_cons pe_int pa_nil)))) (pa_cons (pe_op op_sub (pe_op op_add (pv 2) (pe_call G__law_draw hr (by rfl) T.g__law_draw T.F__law_draw.kp T.b__law_draw .nil pass0 (pa_cons (pv 0) (pa_cons pe_int pa_nil)))) pe_int) (pa_cons (pe_op op_add (pe_op op_fdivW (pv 2) (pe_op op_add pe_int (pe_call G__law_draw hr (by rfl) T.g__law_draw T.F__law_draw.kp T.b__law_draw .nil pass0 (pa_cons (pv 0) (pa_cons pe_int pa_nil))))) pe_int) pa_nil)))))
    (pss_one (ps_ret (pe_callB (call_max2 rfl) (by rfl) T.z_max (by decide +kernel) (pa_cons pe_int (pa_cons (pe_callB (call_min2 rfl) (by rfl) T.z_min (by decide +kernel) (pa_cons (HS.pe_fold (999999999999999999999999999999) (pe_op op_sub (pe_op op_pow pe_int pe_int) pe_int) (by intro σ H Q q; walk_at "fold")) (pa_cons (pe_ix (HS.ixl K) (pe_op op_cat (pv 3) (pe_lst (pa_cons (pe_op op_add pe_int (pe_call G__law_draw hr (by rfl) T.g__law_draw T.F__law_draw.kp T.b__law_draw .nil pass0 (pa_cons (pv 0) (pa_cons (HS.pe_fold (999999999999999999999999999999) (pe_op op_sub (pe_op op_pow pe_int pe_int) pe_int) (by intro σ H Q q; walk_at "fold")) pa_nil)))) pa_nil))) (pe_call G__law_draw hr (by rfl) T.g__law_draw T.F__law_draw.kp T.b__law_draw .nil pass0 (pa_cons (pv 0) (pa_cons pe_int pa_nil))) (fun _ _ => rfl)) pa_nil))) pa_nil))))))), ?_⟩
    obtain ⟨S0, hb, bs, bd, hbl, hB, hn, k⟩ := hw
    walk_at "hs"
    intro p1 hp1
    have e1 := S0.ne1 hp1
    have e2 := S0.ne2 hp1
    refine HS.neL (ys := []) (HS.Keep.sq (S := fun a => a = s ∨ a = d) (HS.Keep.new hp1) hb (by walk_at "ns")) (HS.sq upd_same) ?_
    walk_at "hs"
    refine HS.iteM (fun v H' => ∃ one, v = .int one ∧ HS.Keep (fun a => a = s ∨ a = d) H H' ∧ Src H' s d (n + 1) ∧ 1 ≤ one ∧ one < 10 ^ 30) (fun hc Q' k' => ?_) (fun hc Q' k' => ?_) ?_
    · have hne : ls ≠ [] := fun z => by rw [z] at hc; exact absurd hc (by decide)
      have hpos : 0 < ls.length := List.length_pos_iff.mpr hne
      have hb' : SqL K (upd H p1 (.lst [])) b (ls.map V.int) := HS.Keep.sq (S := fun a => a = s ∨ a = d) (HS.Keep.new hp1) hb (by walk_at "ns")
      walk_at "hs"
      refine ⟨s, d, _, n, rfl, S0.new hp1, by rw [List.length_map]; omega, by rw [List.length_map]; omega, by omega, fun H2 v K2 S2 v0 v1 => ?_⟩
      rw [List.length_map] at v1
      refine HS.ixI ls (K2.sq hb' (by walk_at "ns")) v0 v1 fun z _ hz => ?_
      exact k' _ _ ⟨z, rfl, HS.Keep.trans (HS.Keep.new hp1) K2, S2, hB z hz⟩
    · exact k' _ _ ⟨7, rfl, HS.Keep.new hp1, (S0.new hp1).up (by omega), by decide, by decide⟩
    · rintro v H2 ⟨one, rfl, K2, S2, o0, o1⟩
      walk_at "hs"
      refine ⟨s, d, _, _, rfl, S2, by decide, by decide, by omega, fun H3 v3 K3 S3 v30 v31 => ?_⟩
      walk_at "hs"
      refine ⟨s, d, _, _, rfl, S3, by decide, by decide, by omega, fun H4 v4 K4 S4 v40 v41 => ?_⟩
      walk_at "hs"
      refine ⟨s, d, _, _, rfl, S4, by decide, by decide, by omega, fun H5 v5 K5 S5 v50 v51 => ?_⟩
      walk_at "hs"
      refine ⟨HS.divW 200 (by omega) (by omega) (by decide) (by decide), ?_⟩
      walk_at "hs"
      intro p2 hp2
      have e3 := S5.ne1 hp2
      have e4 := S5.ne2 hp2
      walk_at "hs"
      refine ⟨s, d, _, _, rfl, S5.new hp2, by decide, by decide, by omega, fun H6 v6 K6 S6 v60 v61 => ?_⟩
      have hp26 := K6 _ _ (upd_same (H := H5) (a := p2)) (by walk_at "ns")
      walk_at "hs"
      intro p3 hp3
      have e5 := S6.ne1 hp3
      have e6 := S6.ne2 hp3
      walk_at "hs"
      intro p4 hp4
      have S7 := (S6.new (o := .lst [.int (1 + v6)]) hp3)
      have e7 := S7.ne1 hp4
      have e8 := S7.ne2 hp4
      walk_at "hs"
      refine ⟨s, d, _, _, rfl, S7.new hp4, by decide, by decide, by omega, fun H8 v8 K8 S8 v80 v81 => ?_⟩
      have hp48 := K8 _ _ upd_same (show ¬ (p4 = s ∨ p4 = d) by walk_at "ns")
      refine HS.ixI [1 + v3, one + v4 - 1, one / (1 + v5) + 1, 1 + v6] (HS.sq hp48) v80 v81 fun z _ _ => ?_
      walk_at "hs"
      have KK : HS.Keep (fun a => a = s ∨ a = d) H H8 := K2.trans (K3.trans (K4.trans (K5.trans ((HS.Keep.new hp2).trans (K6.trans ((HS.Keep.new hp3).trans ((HS.Keep.new hp4).trans K8)))))))
      refine k _ _ KK (S8.up (by omega)) ?_ ?_
      · split <;> omega
      · split <;> split at * <;> omega
def sp__law_sheets (K : PySem.W.Frag) : Sp := fun vs H Q _ => ∃ (i j : Int), vs = [.int i, .int j] ∧ (1 ≤ j ∧ j < 2 ^ 200 ∧ Q (.int ((i + j - 1) / j)) H)
theorem ok__law_sheets (T : Txt K mg A) : FnOk P w K mg base CX0 1 A.a__law_sheets A.d__law_sheets ["long", "wide"] (sp__law_sheets K) := by
  refine T.F__law_sheets.ok sc__law_sheets (fun vs H Q E h => ?_) (fun cdv A0 outer s H vs Q E hr h => ?_)
  · obtain ⟨i, j, rfl, hw⟩ := h
    rfl
  · obtain ⟨i, j, rfl, hw⟩ := h
    refine ⟨_, (pss_one (ps_ret (pe_op op_add (pe_op op_fdivW (pv 0) (pv 1)) (pe_callTy call_int1 (by rfl) T.z_int (by decide +kernel) (pa_cons (pe_cmpR op_gt (pe_op op_mod (pv 0) (pv 1)) pe_int (nomark _)) pa_nil))))), ?_⟩
    obtain ⟨h2, h3, k⟩ := hw
    walk_at "hs"
    refine ⟨HS.divW 200 (by omega) h3 (by decide) (by decide), ?_⟩
    walk_at "hs"
    refine .inr ⟨_, rfl, ?_⟩
    walk_at "hs"
    simp only [decide_eq_true_eq]
    rw [← HS.ceil_eq h2]
    exact k
def sp__law_same : Nat → PySem.W.Frag → Sp
  | 0, _ => fun _ _ _ _ => False
  | n + 1, K => fun vs H Q _ => ∃ (x y : V), vs = [x, y] ∧ (HS.SmV K H n x y ∧ ∀ H', HS.Keep (fun _ => False) H H' → Q (.bl true) H')
theorem ok__law_same (T : Txt K mg A) (n : Nat) : FnOk P w K mg base CX0 (n + 1) A.a__law_same A.d__law_same ["found", "wanted"] (sp__law_same n K) := by
  induction n with
  | zero => exact T.F__law_same.ok sc__law_same (fun _ _ _ _ h => h.elim) (fun _ _ _ _ _ _ _ _ _ h => h.elim)
  | succ n G__law_same =>
  refine T.F__law_same.ok sc__law_same (fun vs H Q E h => ?_) (fun cdv A0 outer s H vs Q E hr h => ?_)
  · obtain ⟨x, y, rfl, hw⟩ := h
    rfl
  · obtain ⟨x, y, rfl, hw⟩ := h
    refine ⟨_, (pss_cons (ps_if (pt_cmpR op_isN (pv 1) pe_non (nomark _))
      (pss_one (ps_ret (pe_cmpR op_isN (pv 0) pe_non (nomark _))))
      pss_nil)
    (pss_cons (ps_if (pt_val (pe_callB (HS.kisi K) (by rfl) T.z_isinstance (by decide +kernel) (pa_cons (pv 1) (pa_cons (pe_bltn (v := .ty "bool") (by rfl) T.z_bool (by decide +kernel) rfl) pa_nil))))
      (pss_one (ps_ret (pe_and (pe_callB (HS.kisi K) (by rfl) T.z_isinstance (by decide +kernel) (pa_cons (pv 0) (pa_cons (pe_bltn (v := .ty "bool") (by rfl) T.z_bool (by decide +kernel) rfl) pa_nil))) (pe_one (pe_cmpR op_eq (pv 0) (pv 1) (nomark _))))))
      pss_nil)
    (pss_cons (ps_if (pt_val (pe_callB (HS.kisi K) (by rfl) T.z_isinstance (by decide +kernel) (pa_cons (pv 1) (pa_cons (pe_bltn (v := .ty "int") (by rfl) T.z_int (by decide +kernel) rfl) pa_nil))))
      (pss_one (ps_ret (pe_and (pe_callB (HS.kisi K) (by rfl) T.z_isinstance (by decide +kernel) (pa_cons (pv 0) (pa_cons (pe_bltn (v := .ty "int") (by rfl) T.z_int (by decide +kernel) rfl) pa_nil))) (pe_and (pe_not (pe_callB (HS.kisi K) (by rfl) T.z_isinstance (by decide +kernel) (pa_cons (pv 0) (pa_cons (pe_bltn (v := .ty "bool") (by rfl) T.z_bool (by decide +kernel) rfl) pa_nil)))) (pe_one (pe_cmpR op_eq (pv 0) (pv 1) (nomark _)))))))
      pss_nil)
    (pss_cons (ps_if (pt_val (pe_callB (HS.kisi K) (by rfl) T.z_isinstance (by decide +kernel) (pa_cons (pv 1) (pa_cons (pe_bltn (v := .ty "str") (by rfl) T.z_str (by decide +kernel) rfl) pa_nil))))
      (pss_one (ps_ret (pe_and (pe_callB (HS.kisi K) (by rfl) T.z_isinstance (by decide +kernel) (pa_cons (pv 0) (pa_cons (pe_bltn (v := .ty "str") (by rfl) T.z_str (by decide +kernel) rfl) pa_nil))) (pe_one (pe_cmpR op_eq (pv 0) (pv 1) (nomark _))))))
      pss_nil)
    (pss_cons (ps_if (pt_cmpR op_ne (pe_callB (HS.kisi K) (by rfl) T.z_isinstance (by decide +kernel) (pa_cons (pv 0) (pa_cons (pe_bltn (v := .ty "list") (by rfl) T.z_list (by decide +kernel) rfl) pa_nil))) (pe_callB (HS.kisi K) (by rfl) T.z_isinstance (by decide +kernel) (pa_cons (pv 1) (pa_cons (pe_bltn (v := .ty "list") (by rfl) T.z_list (by decide +kernel) rfl) pa_nil))) (nomark _))
      (pss_one (ps_ret pe_bl))
      pss_nil)
    (pss_cons (ps_if (PW.pt (pw_or (pt_cmpR op_ne (pe_callB (HS.kisi K) (by rfl) T.z_isinstance (by decide +kernel) (pa_cons (pv 0) (pa_cons (pe_bltn (v := .ty "tuple") (by rfl) T.z_tuple (by decide +kernel) rfl) pa_nil))) (pe_callB (HS.kisi K) (by rfl) T.z_isinstance (by decide +kernel) (pa_cons (pv 1) (pa_cons (pe_bltn (v := .ty "tuple") (by rfl) T.z_tuple (by decide +kernel) rfl) pa_nil))) (nomark _)) (pw_or1 (pt_cmpR op_ne (pe_callB (HS.klen K) (by rfl) T.z_len PySem.boot_len (pa_cons (pv 0) pa_nil)) (pe_callB (HS.klen K) (by rfl) T.z_len PySem.boot_len (pa_cons (pv 1) pa_nil)) (nomark _)))))
      (pss_one (ps_ret pe_bl))
      pss_nil)
    (pss_one (ps_ret (pe_cmpR (HS.keq K (hu64 hr)) (pe_lc (own := [("k", 2)]) (g := gName 2) rfl sc__law_same.nd (pi_range1 (by rfl) T.z_range (pa_cons (pe_callB (HS.klen K) (by rfl) T.z_len PySem.boot_len (pa_cons (pv 1) pa_nil)) pa_nil)) (blkOk_by (own := [("k", 2)]) (N := N__law_same) (sc := defScope s__law_same) (by decide +kernel)) (fun _ _ _ _ _ => pg_name (i := 2) sc__law_same.nd rfl (by first | exact .inl rfl | exact .inr rfl)) (fun _ _ _ _ _ => (pts_one (pt_not (pt_val (pe_call G__law_same hr (by rfl) T.g__law_same T.F__law_same.kp T.b__law_same .nil pass0 (pa_cons (pe_ix (HS.ixa K) (pv 0) (pv 2) (fun _ _ => rfl)) (pa_cons (pe_ix (HS.ixa K) (pv 1) (pv 2) (fun _ _ => rfl)) pa_nil))))))) (fun _ _ _ _ _ => (pv 2))) (pe_lst pa_nil) (nomark _)))))))))), ?_⟩
    obtain ⟨hs, k⟩ := hw
    walk_at "hs"
    refine ⟨rfl, ?_⟩
    walk_at "hs"
    cases hs with
    | non =>
      refine HS.it1 rfl ?_
      walk_at "hs"
      refine ⟨rfl, ?_⟩
      rw [decide_eq_true rfl]
      exact k _ .refl
    | bl b =>
      refine HS.it0 (fun z => nomatch z) ?_
      walk_at "hs"
      refine HS.isi true (.base (.bl b)) HS.kb_bb ?_
      walk_at "hs"
      refine HS.isi true (.base (.bl b)) HS.kb_bb ?_
      walk_at "hs"
      refine ⟨rfl, ?_⟩
      rw [decide_eq_true rfl]
      exact k _ .refl
    | int i =>
      refine HS.it0 (fun z => nomatch z) ?_
      walk_at "hs"
      refine HS.isi false (.base (.int i)) HS.kb_ib ?_
      walk_at "hs"
      refine HS.isi true (.base (.int i)) HS.kb_ii ?_
      walk_at "hs"
      refine HS.isi true (.base (.int i)) HS.kb_ii ?_
      walk_at "hs"
      refine HS.isi false (.base (.int i)) HS.kb_ib ?_
      walk_at "hs"
      try rw [if_pos (show (!false) = true from rfl)]
      walk_at "hs"
      rw [decide_eq_true rfl]
      exact k _ .refl
    | str x =>
      refine HS.it0 (fun z => nomatch z) ?_
      walk_at "hs"
      refine HS.isi false (.base (.str x)) HS.kb_sb ?_
      walk_at "hs"
      refine HS.isi false (.base (.str x)) HS.kb_si ?_
      walk_at "hs"
      refine HS.isi true (.base (.str x)) HS.kb_ss ?_
      walk_at "hs"
      refine HS.isi true (.base (.str x)) HS.kb_ss ?_
      walk_at "hs"
      refine ⟨by simp [scal], ?_⟩
      rw [decide_eq_true rfl]
      exact k _ .refl
    | lst h1 h2 h3 h4 h =>
      rename_i m pa pb xs ys
      refine HS.it0 (fun z => nomatch z) ?_
      walk_at "hs"
      refine HS.isi false (.base (.lst h2)) HS.kb_lb ?_
      walk_at "hs"
      refine HS.isi false (.base (.lst h2)) HS.kb_li ?_
      walk_at "hs"
      refine HS.isi false (.base (.lst h2)) HS.kb_ls ?_
      walk_at "hs"
      refine HS.isi true (.base (.lst h1)) HS.kb_ll ?_
      walk_at "hs"
      refine HS.isi true (.base (.lst h2)) HS.kb_ll ?_
      walk_at "hs"
      refine HS.neB ?_
      walk_at "hs"
      refine HS.in0 rfl ?_
      walk_at "hs"
      refine HS.isi false (.base (.lst h1)) HS.kb_lt ?_
      walk_at "hs"
      refine HS.isi false (.base (.lst h2)) HS.kb_lt ?_
      walk_at "hs"
      refine HS.neB ?_
      walk_at "hs"
      refine HS.in0 rfl ?_
      walk_at "hs"
      rw [h3]
      refine HS.in0 rfl ?_
      walk_at "hs"
      have h5 : ys.length ≤ 1000 := by omega
      refine ⟨by omega, by omega, fun D hD => ?_⟩
      refine lc_range (lo := 0) (n := (ys.length : Int).toNat) (fun i H' => HS.Keep (fun _ => False) H H' ∧ H' D = some (.lst [])) ⟨.new hD, upd_same⟩ ?_ ?_
      · rintro i H2 hi ⟨K2, e2⟩
        have hi2 : i < ys.length := by omega
        walk_at "hs"
        rw [Int.zero_add]
        refine .inl ⟨pa, xs, _, xs[i], rfl, rfl, HS.sq (K2 _ _ h1 id), at_of (j := i) (by omega) (List.getElem?_eq_getElem (by omega)), ?_⟩
        walk_at "hs"
        refine .inl ⟨pb, ys, _, ys[i], rfl, rfl, HS.sq (K2 _ _ h2 id), at_of (j := i) (by omega) (List.getElem?_eq_getElem hi2), ?_⟩
        walk_at "hs"
        · refine ⟨xs[i], ys[i], rfl, (h i _ _ (List.getElem?_eq_getElem (by omega)) (List.getElem?_eq_getElem hi2)).same K2, fun H3 K3 => ?_⟩
          walk_at "hs"
          exact ⟨K2.trans K3, K3 _ _ e2 id⟩
      · rintro H2 ⟨K2, e2⟩
        walk_at "hs"
        intro p hp
        refine HS.eqL (xs := []) (ys := []) (HS.Keep.sq (S := fun _ => False) (.new hp) (HS.sq e2) id) (HS.sq upd_same) ?_
        exact k _ (K2.trans (.new hp))
    | tup h1 h2 h3 h4 h =>
      rename_i m pa pb xs ys
      refine HS.it0 (fun z => nomatch z) ?_
      walk_at "hs"
      refine HS.isi false (.base (.tup h2)) HS.kb_tb ?_
      walk_at "hs"
      refine HS.isi false (.base (.tup h2)) HS.kb_ti ?_
      walk_at "hs"
      refine HS.isi false (.base (.tup h2)) HS.kb_ts ?_
      walk_at "hs"
      refine HS.isi false (.base (.tup h1)) HS.kb_tl ?_
      walk_at "hs"
      refine HS.isi false (.base (.tup h2)) HS.kb_tl ?_
      walk_at "hs"
      refine HS.neB ?_
      walk_at "hs"
      refine HS.in0 rfl ?_
      walk_at "hs"
      refine HS.isi true (.base (.tup h1)) HS.kb_tt ?_
      walk_at "hs"
      refine HS.isi true (.base (.tup h2)) HS.kb_tt ?_
      walk_at "hs"
      refine HS.neB ?_
      walk_at "hs"
      refine HS.in0 rfl ?_
      walk_at "hs"
      rw [h3]
      refine HS.in0 rfl ?_
      walk_at "hs"
      have h5 : ys.length ≤ 1000 := by omega
      refine ⟨by omega, by omega, fun D hD => ?_⟩
      refine lc_range (lo := 0) (n := (ys.length : Int).toNat) (fun i H' => HS.Keep (fun _ => False) H H' ∧ H' D = some (.lst [])) ⟨.new hD, upd_same⟩ ?_ ?_
      · rintro i H2 hi ⟨K2, e2⟩
        have hi2 : i < ys.length := by omega
        walk_at "hs"
        rw [Int.zero_add]
        refine .inr ⟨pa, xs, _, xs[i], rfl, rfl, HS.st (K2 _ _ h1 id), at_of (j := i) (by omega) (List.getElem?_eq_getElem (by omega)), ?_⟩
        walk_at "hs"
        refine .inr ⟨pb, ys, _, ys[i], rfl, rfl, HS.st (K2 _ _ h2 id), at_of (j := i) (by omega) (List.getElem?_eq_getElem hi2), ?_⟩
        walk_at "hs"
        · refine ⟨xs[i], ys[i], rfl, (h i _ _ (List.getElem?_eq_getElem (by omega)) (List.getElem?_eq_getElem hi2)).same K2, fun H3 K3 => ?_⟩
          walk_at "hs"
          exact ⟨K2.trans K3, K3 _ _ e2 id⟩
      · rintro H2 ⟨K2, e2⟩
        walk_at "hs"
        intro p hp
        refine HS.eqL (xs := []) (ys := []) (HS.Keep.sq (S := fun _ => False) (.new hp) (HS.sq e2) id) (HS.sq upd_same) ?_
        exact k _ (K2.trans (.new hp))
def sp_check_book (K : PySem.W.Frag) : Sp := fun vs H Q _ => ∃ (b : Addr) (ls : List Int), vs = [.ref b] ∧ (SqL K H b (ls.map V.int) ∧ (∀ x ∈ ls, 1 ≤ x) ∧ ∀ H', HS.Keep (fun _ => False) H H' → Q .non H')
theorem ok_check_book (T : Txt K mg A) : FnOk P w K mg base CX0 1 A.a_check_book A.d_check_book ["book"] (sp_check_book K) := by
  refine T.F_check_book.ok sc_check_book (fun vs H Q E h => ?_) (fun cdv A0 outer s H vs Q E hr h => ?_)
  · obtain ⟨b, ls, rfl, hw⟩ := h
    rfl
  · obtain ⟨b, ls, rfl, hw⟩ := h
    refine ⟨_, (pss_one (ps_for PassesOwn.never rfl (HS.kien K (pi_enum (by rfl) T.z_enumerate (pa_cons (pv 0) pa_nil))) (HS.kgt K (pg_tup rfl (pgs_cons (pg_name (i := 1) sc_check_book.nd rfl (.inl rfl)) (pgs_cons (pg_name (i := 2) sc_check_book.nd rfl (.inl rfl)) pgs_nil))))
      (pss_one (ps_if (pt_cmpR op_lt (pv 2) pe_int (nomark _))
      (pss_one ps_never)
      pss_nil)))), ?_⟩
    obtain ⟨hb, hl, k⟩ := hw
    walk_at "hs"
    refine ⟨b, ls.map V.int, rfl, hb, for_it walk_enum (fun i σ H' => HS.Keep (fun _ => False) H H' ∧ ∃ x1 x2, σ = [some (.ref b), x1, x2]) ⟨.refl, _, _, rfl⟩ (fun i σ H' _ ⟨K', _⟩ => K'.sq hb id) ?_ ?_⟩
    · rintro i x σ H1 H2 hi ⟨K1, x1, x2, rfl⟩ ⟨T1, u, v, rfl, hT, rfl, e1, e2⟩
      cases e1
      obtain ⟨z, rfl, hz, _⟩ := HS.get_int e2
      have hz1 := hl z (List.mem_of_getElem? hz)
      walk_at "hs"
      refine HS.it0 (by omega) ?_
      walk_at "hs"
      exact ⟨K1.put (K1.free hT id), _, _, rfl⟩
    · rintro σ H1 ⟨K1, x1, x2, rfl⟩
      walk_at "hs"
      exact k _ K1
def sp_check_size (K : PySem.W.Frag) : Sp := fun vs H Q _ => ∃ (j : Int), vs = [.int j] ∧ (1 ≤ j ∧ Q .non H)
theorem ok_check_size (T : Txt K mg A) : FnOk P w K mg base CX0 1 A.a_check_size A.d_check_size ["size"] (sp_check_size K) := by
  refine T.F_check_size.ok sc_check_size (fun vs H Q E h => ?_) (fun cdv A0 outer s H vs Q E hr h => ?_)
  · obtain ⟨j, rfl, hw⟩ := h
    rfl
  · obtain ⟨j, rfl, hw⟩ := h
    refine ⟨_, (pss_one (ps_if (pt_cmpR op_lt (pv 0) pe_int (nomark _))
      (pss_one ps_never)
      pss_nil)), ?_⟩
    obtain ⟨h, k⟩ := hw
    walk_at "hs"
    refine HS.it0 (by omega) ?_
    walk_at "hs"
    exact k
def sp_check_number (K : PySem.W.Frag) : Sp := fun vs H Q _ => ∃ (i lo hi : Int), vs = [.int i, .int lo, .int hi] ∧ (lo ≤ i ∧ i ≤ hi ∧ Q .non H)
theorem ok_check_number (T : Txt K mg A) : FnOk P w K mg base CX0 1 A.a_check_number A.d_check_number ["number", "least", "greatest"] (sp_check_number K) := by
  refine T.F_check_number.ok sc_check_number (fun vs H Q E h => ?_) (fun cdv A0 outer s H vs Q E hr h => ?_)
  · obtain ⟨i, lo, hi, rfl, hw⟩ := h
    rfl
  · obtain ⟨i, lo, hi, rfl, hw⟩ := h
    refine ⟨_, (pss_one (ps_if (PW.pt (pw_or (pt_cmpR op_lt (pv 0) (pv 1) (nomark _)) (pw_or1 (pt_cmpR op_gt (pv 0) (pv 2) (nomark _)))))
      (pss_one ps_never)
      pss_nil)), ?_⟩
    obtain ⟨h1, h2, k⟩ := hw
    walk_at "hs"
    refine HS.it0 (by omega) ?_
    walk_at "hs"
    refine HS.it0 (by omega) ?_
    walk_at "hs"
    exact k
def sp_chapter_pages (K : PySem.W.Frag) : Sp := fun vs H Q _ => ∃ (i j : Int), vs = [.int i, .int j] ∧ (1 ≤ j ∧ j < 2 ^ 200 ∧ Q (.int ((i + j - 1) / j)) H)
theorem ok_chapter_pages (T : Txt K mg A) : FnOk P w K mg base CX0 1 A.a_chapter_pages A.d_chapter_pages ["length", "size"] (sp_chapter_pages K) := by
  refine T.F_chapter_pages.ok sc_chapter_pages (fun vs H Q E h => ?_) (fun cdv A0 outer s H vs Q E hr h => ?_)
  · obtain ⟨i, j, rfl, hw⟩ := h
    rfl
  · obtain ⟨i, j, rfl, hw⟩ := h
    refine ⟨_, (pss_one (ps_ret (pe_op op_fdivW (pe_op op_sub (pe_op op_add (pv 0) (pv 1)) pe_int) (pv 1)))), ?_⟩
    obtain ⟨h1, h2, k⟩ := hw
    walk_at "hs"
    refine ⟨HS.divW 200 (by omega) h2 (by decide) (by decide), ?_⟩
    exact k
def sp_count_pages (K : PySem.W.Frag) : Sp := fun vs H Q _ => ∃ (b : Addr) (ls : List Int) (j : Int), vs = [.ref b, .int j] ∧ (SqL K H b (ls.map V.int) ∧ ls.length ≤ 50000 ∧ 1 ≤ j ∧ j < 2 ^ 200 ∧ ∀ H', HS.Keep (fun _ => False) H H' → Q (.int (pcount ls j)) H')
theorem ok_count_pages (T : Txt K mg A) : FnOk P w K mg base CX0 2 A.a_count_pages A.d_count_pages ["book", "size"] (sp_count_pages K) := by
  refine T.F_count_pages.ok sc_count_pages (fun vs H Q E h => ?_) (fun cdv A0 outer s H vs Q E hr h => ?_)
  · obtain ⟨b, ls, j, rfl, hw⟩ := h
    rfl
  · obtain ⟨b, ls, j, rfl, hw⟩ := h
    refine ⟨_, (pss_one (ps_ret (pe_op op_add (pe_callB (HS.klen K) (by rfl) T.z_len PySem.boot_len (pa_cons (pv 0) pa_nil)) (pe_callB (HS.ksum K rfl) (by rfl) T.z_sum (by decide +kernel) (pa_cons (pe_lc (own := [("length", 2)]) (g := gName 2) (tt := tYes) rfl sc_count_pages.nd (HS.kil K (pi_list (pv 0))) (blkOk_by (own := [("length", 2)]) (N := N_count_pages) (sc := defScope s_count_pages) (by decide +kernel)) (fun _ _ _ _ _ => pg_name (i := 2) sc_count_pages.nd rfl (by first | exact .inl rfl | exact .inr rfl)) (fun _ _ _ _ _ => pts_nil) (fun _ _ _ _ _ => (pe_op op_fdivW (pe_op op_sub (pv 2) pe_int) (pv 1)))) pa_nil))))), ?_⟩
    obtain ⟨hb, hl, h1, h2, k⟩ := hw
    walk_at "hs"
    rw [List.length_map]
    refine ⟨⟨_, hb⟩, fun D hD => lc_list (xs := ls.map V.int) (fun i H' => HS.Keep (fun _ => False) H H' ∧ H' D = some (.lst (((ls.take i).map fun x => (x - 1) / j).map V.int))) ⟨.new hD, upd_same⟩ (fun i H' _ ⟨K', _⟩ => K'.sq hb id) ?_ ?_⟩
    · rintro i x H1 hi ⟨K1, h3⟩
      obtain ⟨z, rfl, hz, hil⟩ := HS.get_int hi
      walk_at "hs"
      refine ⟨HS.divW 200 (by omega) h2 (by decide) (by decide), ?_⟩
      refine ⟨_, h3, HS.sz (by simp; omega), K1.put hD, ?_⟩
      rw [upd_same, List.take_add_one, hz, List.map_append, List.map_append]
      rfl
    · rintro H1 ⟨K1, h3⟩
      rw [List.length_map, List.take_length] at h3
      walk_at "hs"
      rw [pcount_less1 h1]
      exact k _ K1
def sp_page_of (K : PySem.W.Frag) : Sp := fun vs H Q _ => ∃ (b : Addr) (ls : List Int) (j c i z : Int), vs = [.ref b, .int j, .int c, .int i] ∧ (SqL K H b (ls.map V.int) ∧ (∀ x ∈ ls, 1 ≤ x) ∧ ls.length ≤ 50000 ∧ 1 ≤ j ∧ j < 2 ^ 200 ∧ 1 ≤ c ∧ ls[(c - 1).toNat]? = some z ∧ 1 ≤ i ∧ i ≤ z ∧ ∀ H', HS.Keep (fun _ => False) H H' → Q (.int (pcount (ls.take (c - 1).toNat) j + (i + j - 1) / j)) H')
theorem ok_page_of (T : Txt K mg A) : FnOk P w K mg base CX0 3 A.a_page_of A.d_page_of ["book", "size", "chapter", "line"] (sp_page_of K) := by
  have G_check_book : FnOk P w K mg base CX0 1 A.a_check_book A.d_check_book ["book"] (sp_check_book K) := ok_check_book T
  have G_check_size : FnOk P w K mg base CX0 1 A.a_check_size A.d_check_size ["size"] (sp_check_size K) := ok_check_size T
  have G_check_number : FnOk P w K mg base CX0 1 A.a_check_number A.d_check_number ["number", "least", "greatest"] (sp_check_number K) := ok_check_number T
  have G_count_pages : FnOk P w K mg base CX0 2 A.a_count_pages A.d_count_pages ["book", "size"] (sp_count_pages K) := ok_count_pages T
  have G_chapter_pages : FnOk P w K mg base CX0 1 A.a_chapter_pages A.d_chapter_pages ["length", "size"] (sp_chapter_pages K) := ok_chapter_pages T
  refine T.F_page_of.ok sc_page_of (fun vs H Q E h => ?_) (fun cdv A0 outer s H vs Q E hr h => ?_)
  · obtain ⟨b, ls, j, c, i, z, rfl, hw⟩ := h
    rfl
  · obtain ⟨b, ls, j, c, i, z, rfl, hw⟩ := h
    refine ⟨_, (pss_cons (ps_expr (pe_call G_check_book (hr.mono (by decide)) (by rfl) T.g_check_book T.F_check_book.kp T.b_check_book .nil pass0 (pa_cons (pv 0) pa_nil)))
    (pss_cons (ps_expr (pe_call G_check_size (hr.mono (by decide)) (by rfl) T.g_check_size T.F_check_size.kp T.b_check_size .nil pass0 (pa_cons (pv 1) pa_nil)))
    (pss_cons (ps_expr (pe_call G_check_number (hr.mono (by decide)) (by rfl) T.g_check_number T.F_check_number.kp T.b_check_number .nil pass0 (pa_cons (pv 2) (pa_cons pe_int (pa_cons (pe_callB (HS.klen K) (by rfl) T.z_len PySem.boot_len (pa_cons (pv 0) pa_nil)) pa_nil)))))
    (pss_cons (ps_expr (pe_call G_check_number (hr.mono (by decide)) (by rfl) T.g_check_number T.F_check_number.kp T.b_check_number .nil pass0 (pa_cons (pv 3) (pa_cons pe_int (pa_cons (pe_ix (HS.ixl K) (pv 0) (pe_op op_sub (pv 2) pe_int) (fun _ _ => rfl)) pa_nil)))))
    (pss_one (ps_ret (pe_op op_add (pe_call G_count_pages hr (by rfl) T.g_count_pages T.F_count_pages.kp T.b_count_pages .nil pass0 (pa_cons (pe_slice (HS.sll K) (pv 0) po_none (po_some (pe_op op_sub (pv 2) pe_int))) (pa_cons (pv 1) pa_nil))) (pe_call G_chapter_pages (hr.mono (by decide)) (by rfl) T.g_chapter_pages T.F_chapter_pages.kp T.b_chapter_pages .nil pass0 (pa_cons (pv 3) (pa_cons (pv 1) pa_nil)))))))))), ?_⟩
    obtain ⟨hb, hp, hl, h1, h2, hc, hz, hi, hiz, k⟩ := hw
    have hcl : c ≤ ls.length := by have := (List.getElem?_eq_some_iff.mp hz).1; omega
    walk_at "hs"
    refine ⟨b, ls, rfl, hb, hp, fun H1 K1 => ?_⟩
    have hb1 := K1.sq hb id
    walk_at "hs"
    refine ⟨j, rfl, h1, ?_⟩
    walk_at "hs"
    refine ⟨c, 1, _, rfl, hc, by rw [List.length_map]; exact hcl, ?_⟩
    walk_at "hs"
    refine HS.ixZ hb1 (by omega) hz ?_
    walk_at "hs"
    refine ⟨i, 1, z, rfl, hi, hiz, ?_⟩
    walk_at "hs"
    intro p1 hp1
    have K2 : HS.Keep (fun _ => False) H (upd H1 p1 (.lst ((ls.take (c - 1).toNat).map V.int))) := K1.put (K1.free hp1 id)
    have ec : cutV (ls.map V.int) none (some (c - 1)) = (ls.take (c - 1).toNat).map V.int := by
      rw [show c - 1 = (((c - 1).toNat : Nat) : Int) by omega, HS.cut_to, List.map_take]; simp
    rw [ec]
    walk_at "hs"
    refine ⟨p1, _, j, rfl, HS.sq upd_same, by rw [List.length_take]; omega, h1, h2, fun H3 K3 => ?_⟩
    walk_at "hs"
    refine ⟨i, j, rfl, h1, h2, ?_⟩
    walk_at "hs"
    exact k _ (K2.trans K3)
def sp_find_chapter (K : PySem.W.Frag) : Sp := fun vs H Q _ => ∃ (b : Addr) (ls : List Int) (j q : Int), vs = [.ref b, .int j, .int q] ∧ (SqL K H b (ls.map V.int) ∧ 1 ≤ j ∧ j < 2 ^ 200 ∧ 1 ≤ q ∧ q ≤ pcount ls j ∧ ∀ H' t c, HS.Keep (fun _ => False) H H' → H t = none → H' t = some (.tup [.int ((c + 1 : Nat) : Int), .int (pcount (ls.take c) j)]) → c < ls.length → pcount (ls.take c) j < q → q ≤ pcount (ls.take (c + 1)) j → Q (.ref t) H')
theorem ok_find_chapter (T : Txt K mg A) : FnOk P w K mg base CX0 2 A.a_find_chapter A.d_find_chapter ["book", "size", "page"] (sp_find_chapter K) := by
  have G_chapter_pages : FnOk P w K mg base CX0 1 A.a_chapter_pages A.d_chapter_pages ["length", "size"] (sp_chapter_pages K) := ok_chapter_pages T
  refine T.F_find_chapter.ok sc_find_chapter (fun vs H Q E h => ?_) (fun cdv A0 outer s H vs Q E hr h => ?_)
  · obtain ⟨b, ls, j, q, rfl, hw⟩ := h
    rfl
  · obtain ⟨b, ls, j, q, rfl, hw⟩ := h
    refine ⟨_, (pss_cons (ps_set (i := 3) sc_find_chapter.nd rfl (.inl rfl) pe_int)
    (pss_cons (ps_set (i := 4) sc_find_chapter.nd rfl (.inl rfl) pe_int)
    (pss_cons (ps_set (i := 5) sc_find_chapter.nd rfl (.inl rfl) (pe_call G_chapter_pages hr (by rfl) T.g_chapter_pages T.F_chapter_pages.kp T.b_chapter_pages .nil pass0 (pa_cons (pe_ix (HS.ixl K) (pv 0) pe_int (fun _ _ => rfl)) (pa_cons (pv 1) pa_nil))))
    (pss_cons (ps_while PassesOwn.never (pt_cmpR op_lt (pv 5) (pv 2) (nomark _))
      (pss_cons (ps_set (i := 4) sc_find_chapter.nd rfl (.inl rfl) (pv 5))
    (pss_cons (ps_set (i := 5) sc_find_chapter.nd rfl (.inl rfl) (pe_op op_add (pv 4) (pe_call G_chapter_pages hr (by rfl) T.g_chapter_pages T.F_chapter_pages.kp T.b_chapter_pages .nil pass0 (pa_cons (pe_ix (HS.ixl K) (pv 0) (pv 3) (fun _ _ => rfl)) (pa_cons (pv 1) pa_nil)))))
    (pss_one (ps_set (i := 3) sc_find_chapter.nd rfl (.inl rfl) (pe_op op_add (pv 3) pe_int))))))
    (pss_one (ps_ret (pe_tup (pa_cons (pv 3) (pa_cons (pv 4) pa_nil))))))))), ?_⟩
    obtain ⟨hb, h1, h2, hq, hql, k⟩ := hw
    walk_at "hs"
    have h0 : 0 < ls.length := by
      cases ls with
      | nil => rw [pcount_nil] at hql; omega
      | cons x r => exact Nat.succ_pos _
    have e0 : ls[0]? = some ls[0] := List.getElem?_eq_getElem h0
    refine HS.ixZ hb (Int.le_refl 0) e0 ?_
    walk_at "hs"
    refine ⟨_, j, rfl, h1, h2, ?_⟩
    walk_at "hs"
    refine ⟨fun m σ H' => H' = H ∧ ∃ c : Nat, m = ls.length - c ∧ c < ls.length ∧ pcount (ls.take c) j < q ∧ σ = [some (.ref b), some (.int j), some (.int q), some (.int ((c + 1 : Nat) : Int)), some (.int (pcount (ls.take c) j)), some (.int (pcount (ls.take (c + 1)) j))], ⟨_, rfl, 0, rfl, h0, by rw [List.take_zero, pcount_nil]; omega, ?_⟩, ?_⟩
    · rw [pcount_take j e0, List.take_zero, pcount_nil, Int.zero_add]
      rfl
    · rintro m σ H' ⟨rfl, c, rfl, hc, hcq, rfl⟩
      walk_at "hs"
      refine HS.itd (fun hlt => ?_) (fun hge => ?_)
      · have hc1 : c + 1 < ls.length := by
          rcases Nat.lt_or_ge (c + 1) ls.length with h | h
          · exact h
          · rw [List.take_of_length_le h] at hlt; omega
        have e1 : ls[c + 1]? = some ls[c + 1] := List.getElem?_eq_getElem hc1
        refine ⟨fun σ' H'' => H'' = H' ∧ σ' = [some (.ref b), some (.int j), some (.int q), some (.int ((c + 1 + 1 : Nat) : Int)), some (.int (pcount (ls.take (c + 1)) j)), some (.int (pcount (ls.take (c + 1 + 1)) j))], fun σ' H'' ⟨e, e'⟩ => ⟨ls.length - (c + 1), by omega, e, c + 1, rfl, hc1, hlt, e'⟩, ?_⟩
        walk_at "hs"
        refine HS.ixZ hb (by omega) (show ls[(((c + 1 : Nat) : Int)).toNat]? = some ls[c + 1] from e1) ?_
        walk_at "hs"
        refine ⟨_, j, rfl, h1, h2, ?_⟩
        walk_at "hs"
        refine ⟨rfl, ?_⟩
        rw [pcount_take j e1]
        rfl
      · walk_at "hs"
        intro t ht
        walk_at "hs"
        exact k _ t c (.new ht) ht upd_same hc hcq (by omega)
def sp_lines_on (K : PySem.W.Frag) : Sp := fun vs H Q _ => ∃ (b : Addr) (ls : List Int) (j q : Int), vs = [.ref b, .int j, .int q] ∧ (SqL K H b (ls.map V.int) ∧ (∀ x ∈ ls, 1 ≤ x) ∧ ls.length ≤ 50000 ∧ 1 ≤ j ∧ j < 2 ^ 200 ∧ q < 2 ^ 200 ∧ 1 ≤ q ∧ q ≤ pcount ls j ∧ ∀ H' t (c : Nat) z, HS.Keep (fun _ => False) H H' → H t = none → ls[c]? = some z → pcount (ls.take c) j < q → q ≤ pcount (ls.take (c + 1)) j → H' t = some (.tup [.int ((c + 1 : Nat) : Int), .int ((q - pcount (ls.take c) j - 1) * j + 1), .int (min ((q - pcount (ls.take c) j - 1) * j + j) z)]) → Q (.ref t) H')
theorem ok_lines_on (T : Txt K mg A) : FnOk P w K mg base CX0 3 A.a_lines_on A.d_lines_on ["book", "size", "page"] (sp_lines_on K) := by
  have G_check_book : FnOk P w K mg base CX0 1 A.a_check_book A.d_check_book ["book"] (sp_check_book K) := ok_check_book T
  have G_check_size : FnOk P w K mg base CX0 1 A.a_check_size A.d_check_size ["size"] (sp_check_size K) := ok_check_size T
  have G_check_number : FnOk P w K mg base CX0 1 A.a_check_number A.d_check_number ["number", "least", "greatest"] (sp_check_number K) := ok_check_number T
  have G_count_pages : FnOk P w K mg base CX0 2 A.a_count_pages A.d_count_pages ["book", "size"] (sp_count_pages K) := ok_count_pages T
  have G_find_chapter : FnOk P w K mg base CX0 2 A.a_find_chapter A.d_find_chapter ["book", "size", "page"] (sp_find_chapter K) := ok_find_chapter T
  refine T.F_lines_on.ok sc_lines_on (fun vs H Q E h => ?_) (fun cdv A0 outer s H vs Q E hr h => ?_)
  · obtain ⟨b, ls, j, q, rfl, hw⟩ := h
    rfl
  · obtain ⟨b, ls, j, q, rfl, hw⟩ := h
    refine ⟨_, (pss_cons (ps_expr (pe_call G_check_book (hr.mono (by decide)) (by rfl) T.g_check_book T.F_check_book.kp T.b_check_book .nil pass0 (pa_cons (pv 0) pa_nil)))
    (pss_cons (ps_expr (pe_call G_check_size (hr.mono (by decide)) (by rfl) T.g_check_size T.F_check_size.kp T.b_check_size .nil pass0 (pa_cons (pv 1) pa_nil)))
    (pss_cons (ps_expr (pe_call G_check_number (hr.mono (by decide)) (by rfl) T.g_check_number T.F_check_number.kp T.b_check_number .nil pass0 (pa_cons (pv 2) (pa_cons pe_int (pa_cons (pe_call G_count_pages hr (by rfl) T.g_count_pages T.F_count_pages.kp T.b_count_pages .nil pass0 (pa_cons (pv 0) (pa_cons (pv 1) pa_nil))) pa_nil)))))
    (pss_cons (ps_asg (pe_call G_find_chapter hr (by rfl) T.g_find_chapter T.F_find_chapter.kp T.b_find_chapter .nil pass0 (pa_cons (pv 0) (pa_cons (pv 1) (pa_cons (pv 2) pa_nil)))) (HS.kgt K (pg_tup rfl (pgs_cons (pg_name (i := 3) sc_lines_on.nd rfl (.inl rfl)) (pgs_cons (pg_name (i := 4) sc_lines_on.nd rfl (.inl rfl)) pgs_nil)))))
    (pss_cons (ps_set (i := 5) sc_lines_on.nd rfl (.inl rfl) (pe_op op_add (pe_op op_mulW (pe_op op_sub (pe_op op_sub (pv 2) (pv 4)) pe_int) (pv 1)) pe_int))
    (pss_cons (ps_set (i := 6) sc_lines_on.nd rfl (.inl rfl) (pe_callB (call_min2 rfl) (by rfl) T.z_min (by decide +kernel) (pa_cons (pe_op op_sub (pe_op op_add (pv 5) (pv 1)) pe_int) (pa_cons (pe_ix (HS.ixl K) (pv 0) (pe_op op_sub (pv 3) pe_int) (fun _ _ => rfl)) pa_nil))))
    (pss_one (ps_ret (pe_tup (pa_cons (pv 3) (pa_cons (pv 5) (pa_cons (pv 6) pa_nil)))))))))))), ?_⟩
    obtain ⟨hb, hp, hl, h1, h2, hq2, hq, hql, k⟩ := hw
    walk_at "hs"
    refine ⟨b, ls, rfl, hb, hp, fun H1 K1 => ?_⟩
    have hb1 := K1.sq hb id
    walk_at "hs"
    refine ⟨j, rfl, h1, ?_⟩
    walk_at "hs"
    refine ⟨b, ls, j, rfl, hb1, hl, h1, h2, fun H2 K2 => ?_⟩
    have hb2 := K2.sq hb1 id
    walk_at "hs"
    refine ⟨q, 1, _, rfl, hq, hql, ?_⟩
    walk_at "hs"
    refine ⟨b, ls, j, q, rfl, hb2, h1, h2, hq, hql, fun H3 t c K3 ht et hc hcq hcq2 => ?_⟩
    walk_at "hs"
    have p0 := pcount_pos (take_all hp c) h1
    refine ⟨HS.mulW 200 200 (by omega) (by omega) (by omega) (by omega) (by decide) (by decide) (by decide), ?_⟩
    have hz : ls[c]? = some ls[c] := List.getElem?_eq_getElem hc
    walk_at "hs"
    refine HS.ixZ (K3.sq hb2 id) (by omega) (show ls[((((c + 1 : Nat) : Int)) - 1).toNat]? = some ls[c] by rw [show (((c + 1 : Nat) : Int) - 1).toNat = c by omega]; exact hz) ?_
    walk_at "hs"
    intro p1 hp1
    refine k _ p1 c ls[c] ((K1.trans (K2.trans K3)).put ((K1.trans (K2.trans K3)).free hp1 id)) ((K1.trans (K2.trans K3)).free hp1 id) hz hcq hcq2 ?_
    rw [upd_same]
    congr 4
    congr 1
    congr 1
    generalize (q - pcount (ls.take c) j - 1) * j = r
    simp only [Int.min_def]
    split <;> split <;> (try congr 1) <;> omega
def sp_Unreadable___init__ (K : PySem.W.Frag) : Sp := fun vs H Q _ => ∃ (a C : Addr) (w : V), vs = [.ref a, w] ∧ (OexC K C ∧ PySem.W.findIn K (.ref C) "value" = some none ∧ H a = some (exo a C none) ∧ ∀ H' d, HS.Keep (fun x => x = a) H H' → H d = none → d ≠ a → H' a = some (exo a C (some d)) → H' d = some (exd d [("value", w)]) → Q .non H')
theorem ok_Unreadable___init__ (T : Txt K mg A) : FnOk P w K mg base CX0 1 A.a_Unreadable___init__ A.d_Unreadable___init__ ["self", "value"] (sp_Unreadable___init__ K) := by
  refine T.F_Unreadable___init__.ok sc_Unreadable___init__ (fun vs H Q E h => ?_) (fun cdv A0 outer s H vs Q E hr h => ?_)
  · obtain ⟨a, C, w, rfl, hw⟩ := h
    rfl
  · obtain ⟨a, C, w, rfl, hw⟩ := h
    refine ⟨_, (pss_one (ps_ost (pv 0) (pv 1))), ?_⟩
    obtain ⟨T1, hv, ha, k⟩ := hw
    walk_at "hs"
    refine ⟨a, C, rfl, T1, hv, .inl ⟨ha, fun d hd hne => ?_⟩⟩
    walk_at "hs"
    exact k _ d ((HS.Keep.new hd).at rfl) hd (by first | exact hne | exact Ne.symm hne) upd_same (by rw [upd_ne hne]; exact upd_same)
def sp_read_number (K : PySem.W.Frag) : Sp := fun vs H Q _ => ∃ (t : Str), vs = [.str t] ∧ (t.length ≤ 20000 ∧ Q (.int (numR t)) H)
theorem ok_read_number (T : Txt K mg A) : FnOk P w K mg base CX0 1 A.a_read_number A.d_read_number ["word"] (sp_read_number K) := by
  refine T.F_read_number.ok sc_read_number (fun vs H Q E h => ?_) (fun cdv A0 outer s H vs Q E hr h => ?_)
  · obtain ⟨t, rfl, hw⟩ := h
    rfl
  · obtain ⟨t, rfl, hw⟩ := h
    refine ⟨_, (pss_cons (ps_if (PW.pt (pw_or (pt_not (PW.pt (pw_and (pt_val (pe_m0 PySem.F.slot_str_isascii PySem.F.type_str_isascii mt_isascii (pv 0))) (pw_and1 (pt_val (pe_m0 PySem.F.slot_str_isdigit PySem.F.type_str_isdigit mt_isdigit (pv 0))))))) (pw_or (pt_cmpR op_eq (pe_ix ix_str (pv 0) pe_int (fun _ _ => rfl)) pe_str (nomark _)) (pw_or1 (pt_cmpR op_gt (pe_callB call_len_str (by rfl) T.z_len PySem.boot_len (pa_cons (pv 0) pa_nil)) (pe_glob (v := .int 40) (by rfl) T.v_MOST_DIGITS.choose_spec ⟨_, rfl⟩) (nomark _))))))
      (pss_one (ps_ret pe_int))
      pss_nil)
    (pss_one (ps_ret (pe_callTy call_int_str (by rfl) T.z_int (by decide +kernel) (pa_cons (pv 0) pa_nil))))), ?_⟩
    obtain ⟨hl, k⟩ := hw
    have hA := asc_dig t
    walk_at "hs"
    refine ⟨t, rfl, rfl, trivial, ?_⟩
    walk_at "hs"
    cases e1 : Txt.isascii t with
    | false =>
      have z : numR t = 0 := numR_zero (by rw [e1]; rfl)
      rw [z] at k
      walk_at "hs"
      exact k
    | true =>
      walk_at "hs"
      refine ⟨t, rfl, rfl, trivial, ?_⟩
      walk_at "hs"
      cases e2 : Txt.isdigit t with
      | false =>
        have z : numR t = 0 := numR_zero (by rw [e1, e2]; rfl)
        rw [z] at k
        walk_at "hs"
        exact k
      | true =>
        rw [e1, e2] at hA
        have hB := hA.symm
        rw [show (true && true) = true from rfl, Bool.and_eq_true, decide_eq_true_eq, List.all_eq_true] at hB
        obtain ⟨hne, hdg⟩ := hB
        have hdg' : PySem.NumText.AllDigits (TL.tl t) := fun c hc => of_decide_eq_true (hdg c hc)
        obtain ⟨c, r, hcr⟩ : ∃ c r, TL.tl t = c :: r := by
          cases h : TL.tl t with
          | nil => exact absurd h hne
          | cons c r => exact ⟨c, r, rfl⟩
        walk_at "hs"
        refine ⟨t, 0, c, rfl, rfl, HS.szl (by omega), by rw [show t.cps.toList = c :: r from hcr]; exact HS.atN 0 rfl rfl, ?_⟩
        walk_at "hs"
        refine HS.eqStr ?_
        rw [show decide ((⟨#[c]⟩ : PySem.Str) = PySem.Str.ofString "0") = decide (c = 48) from decide_eq_decide.mpr one_zero]
        walk_at "hs"
        refine HS.itd (fun hc => ?_) (fun hc => ?_)
        · have z : numR t = 0 := by
            unfold numR isNumL
            rw [hcr, hc]
            simp
          rw [z] at k
          walk_at "hs"
          exact k
        · walk_at "hs"
          refine ⟨t, rfl, HS.szl (by omega), ?_⟩
          walk_at "hs"
          refine HS.itd (fun h40 => ?_) (fun h40 => ?_)
          · have z : numR t = 0 := by
              unfold numR isNumL
              rw [show decide ((TL.tl t).length ≤ 40) = false from decide_eq_false (by rw [← TL.len_tl]; omega)]
              simp
            rw [z] at k
            walk_at "hs"
            exact k
          · have g : isNumL (TL.tl t) = true := by
              unfold isNumL
              rw [hA.symm, hcr, decide_eq_true (show (c :: r).head? ≠ some 48 from fun q => hc (Option.some.inj q)), ← hcr, decide_eq_true (show (TL.tl t).length ≤ 40 by rw [← TL.len_tl]; omega)]
              rfl
            walk_at "hs"
            refine ⟨t, _, rfl, PySem.intText_digits hdg' hne (by omega), by omega, ?_⟩
            rw [show numR t = ((PySem.NumText.digitsVal (TL.tl t) : Nat) : Int) from if_pos g] at k
            exact k
def sp_read_chapters (K : PySem.W.Frag) : Sp := fun vs H Q _ => ∃ (t : Str), vs = [.str t] ∧ (t.length ≤ 20000 ∧ ∀ H' p, HS.Keep (fun _ => False) H H' → H p = none → H' p = some (.tup [.int (chR t).1, .int (chR t).2]) → Q (.ref p) H')
theorem ok_read_chapters (T : Txt K mg A) : FnOk P w K mg base CX0 2 A.a_read_chapters A.d_read_chapters ["part"] (sp_read_chapters K) := by
  have G_read_number : FnOk P w K mg base CX0 1 A.a_read_number A.d_read_number ["word"] (sp_read_number K) := ok_read_number T
  refine T.F_read_chapters.ok sc_read_chapters (fun vs H Q E h => ?_) (fun cdv A0 outer s H vs Q E hr h => ?_)
  · obtain ⟨t, rfl, hw⟩ := h
    rfl
  · obtain ⟨t, rfl, hw⟩ := h
    refine ⟨_, (pss_cons (ps_asg (pe_partition (pv 0) pe_str) (HS.kgt K (pg_tup rfl (pgs_cons (pg_name (i := 1) sc_read_chapters.nd rfl (.inl rfl)) (pgs_cons (pg_name (i := 2) sc_read_chapters.nd rfl (.inl rfl)) (pgs_cons (pg_name (i := 3) sc_read_chapters.nd rfl (.inl rfl)) pgs_nil))))))
    (pss_cons (ps_if (pt_cmpR op_eq (pv 2) pe_str (nomark _))
      (pss_one (ps_ret (pe_tup (pa_cons pe_int (pa_cons (pe_call G_read_number hr (by rfl) T.g_read_number T.F_read_number.kp T.b_read_number .nil pass0 (pa_cons (pv 0) pa_nil)) pa_nil)))))
      pss_nil)
    (pss_cons (ps_set (i := 4) sc_read_chapters.nd rfl (.inl rfl) (pe_call G_read_number hr (by rfl) T.g_read_number T.F_read_number.kp T.b_read_number .nil pass0 (pa_cons (pv 1) pa_nil)))
    (pss_cons (ps_if (pt_cmpR op_eq (pv 4) pe_int (nomark _))
      (pss_one (ps_ret (pe_tup (pa_cons pe_int (pa_cons pe_int pa_nil)))))
      pss_nil)
    (pss_one (ps_ret (pe_tup (pa_cons (pv 4) (pa_cons (pe_call G_read_number hr (by rfl) T.g_read_number T.F_read_number.kp T.b_read_number .nil pass0 (pa_cons (pv 3) pa_nil)) pa_nil))))))))), ?_⟩
    obtain ⟨hl, k⟩ := hw
    walk_at "hs"
    refine ⟨t, _, rfl, rfl, rfl, HS.szl (by omega), ?_⟩
    have lx := x_len
    rcases part_cases t with e | ⟨a, b, e, eab⟩
    · have c1 : chR t = (1, numR t) := by unfold chR; rw [e, if_pos rfl]
      rw [e]
      intro p hp
      generalize hG_p : upd _ p _ = H1
      have at_p := HS.upgs hG_p
      have Kn_p := HS.upgK hG_p hp
      clear hG_p
      walk_at "hs"
      refine HS.eqStr ?_
      rw [decide_eq_true (show (PySem.Str.empty : PySem.Str) = PySem.Str.ofString "" from rfl)]
      walk_at "hs"
      refine ⟨t, rfl, hl, ?_⟩
      walk_at "hs"
      intro q hq
      exact k _ q (Kn_p.trans (.new hq)) (Kn_p.free hq id) (by rw [upd_same, c1])
    · have el := congrArg PySem.Str.length eab
      rw [lenA, lenA, lx] at el
      rw [e]
      intro p hp
      generalize hG_p : upd _ p _ = H1
      have at_p := HS.upgs hG_p
      have Kn_p := HS.upgK hG_p hp
      clear hG_p
      walk_at "hs"
      refine HS.eqStr ?_
      rw [decide_eq_false (show ¬ ((PySem.Str.ofString "x" : PySem.Str) = PySem.Str.ofString "") from x_ne)]
      walk_at "hs"
      refine ⟨a, rfl, by omega, ?_⟩
      walk_at "hs"
      refine HS.itd (fun h1 => ?_) (fun h1 => ?_)
      · have c1 : chR t = (0, 0) := by unfold chR; rw [e, if_neg x_ne]; exact if_pos h1
        walk_at "hs"
        intro q hq
        exact k _ q (Kn_p.trans (.new hq)) (Kn_p.free hq id) (by rw [upd_same, c1])
      · have c1 : chR t = (numR a, numR b) := by unfold chR; rw [e, if_neg x_ne]; exact if_neg h1
        walk_at "hs"
        refine ⟨b, rfl, by omega, ?_⟩
        walk_at "hs"
        intro q hq
        exact k _ q (Kn_p.trans (.new hq)) (Kn_p.free hq id) (by rw [upd_same, c1])
def sp_read_book (K : PySem.W.Frag) (A : Ad) : Sp := fun vs H Q E => ∃ (t : Str), vs = [.str t] ∧ (t.length ≤ 20000 ∧ (∀ ps, goR (Txt.split t " + ") 0 = some ps → (spread ps).length ≤ 16000000 ∧ ∀ p ∈ ps, p.1 ≤ 1000000) ∧
  (readR t = none → ∀ H' d, HS.Keep (fun _ => False) H H' → H d = none → H' d = some (.xd [("value", .str t)]) → E (.ref A.c_Unreadable) (some d) H') ∧
  (∀ ls, readR t = some ls → ∀ H' p, HS.Keep (fun _ => False) H H' → H p = none → H' p = some (.lst (ls.map V.int)) → Q (.ref p) H'))
theorem ok_read_book (T : Txt K mg A) : FnOk P w K mg base (L2.CX P w) 3 A.a_read_book A.d_read_book ["text"] (sp_read_book K A) := by
  have G_read_chapters : FnOk P w K mg base CX0 2 A.a_read_chapters A.d_read_chapters ["part"] (sp_read_chapters K) := ok_read_chapters T
  have G_Unreadable___init__ : FnOk P w K mg base CX0 1 A.a_Unreadable___init__ A.d_Unreadable___init__ ["self", "value"] (sp_Unreadable___init__ K) := ok_Unreadable___init__ T
  refine L2.Fun.okX T.F_read_book sc_read_book (fun vs H Q E h => ?_) (fun cdv A0 outer s H vs Q E hr h => ?_)
  · obtain ⟨t, rfl, hw⟩ := h
    rfl
  · obtain ⟨t, rfl, hw⟩ := h
    refine ⟨_, (pss_cons (ps_if (pt_cmpR op_eq (pv 0) pe_str (nomark _))
      (pss_one (ps_ret (pe_lst pa_nil)))
      pss_nil)
    (pss_cons (ps_set (i := 1) sc_read_book.nd rfl (.inl rfl) (pe_lst pa_nil))
    (pss_cons (ps_set (i := 2) sc_read_book.nd rfl (.inl rfl) pe_int)
    (pss_cons (ps_for (passes_of rfl) rfl (HS.kil K (pi_list (pe_split (pv 0) pe_str))) (pg_name (i := 3) sc_read_book.nd rfl (.inl rfl))
      (pss_cons (ps_asg (pe_call G_read_chapters hr (by rfl) T.g_read_chapters T.F_read_chapters.kp T.b_read_chapters .nil pass0 (pa_cons (pv 3) pa_nil)) (HS.kgt K (pg_tup rfl (pgs_cons (pg_name (i := 4) sc_read_book.nd rfl (.inl rfl)) (pgs_cons (pg_name (i := 5) sc_read_book.nd rfl (.inl rfl)) pgs_nil)))))
    (pss_cons (ps_if (PW.pt (pw_or (pt_cmpR op_eq (pv 4) pe_int (nomark _)) (pw_or (pt_cmpR op_eq (pv 5) pe_int (nomark _)) (pw_or1 (pt_cmpR op_eq (pv 5) (pv 2) (nomark _))))))
      (pss_one (ps_raise rfl (takes_of rfl rfl rfl rfl) (pmk_oex T.C_Unreadable T.i_Unreadable T.t_Unreadable G_Unreadable___init__ hr T.b_Unreadable___init__ .nil pass0 (by rfl) T.m_Unreadable (pa_cons (pv 0) pa_nil))))
      pss_nil)
    (pss_cons (ps_expr (HS.kbm K (pe_bm PySem.F.plainAttrs_list PySem.F.slot_list_append PySem.F.type_list_append mt_append (pv 1) (pa_cons (pe_tup (pa_cons (pv 4) (pa_cons (pv 5) pa_nil))) pa_nil))))
    (pss_one (ps_set (i := 2) sc_read_book.nd rfl (.inl rfl) (pv 5)))))))
    (pss_cons (ps_set (i := 6) sc_read_book.nd rfl (.inl rfl) (pe_lst pa_nil))
    (pss_cons (ps_for (passes_of rfl) rfl (HS.kil K (pi_list (pv 1))) (HS.kgt K (pg_tup rfl (pgs_cons (pg_name (i := 4) sc_read_book.nd rfl (.inl rfl)) (pgs_cons (pg_name (i := 5) sc_read_book.nd rfl (.inl rfl)) pgs_nil))))
      (pss_one (ps_expr (HS.kbm K (pe_bm PySem.F.plainAttrs_list PySem.F.slot_list_extend PySem.F.type_list_extend mt_extend (pv 6) (pa_cons (pe_op op_rep (pe_lst (pa_cons (pv 5) pa_nil)) (pv 4)) pa_nil))))))
    (pss_one (ps_ret (pv 6))))))))), ?_⟩
    obtain ⟨hl, hm, kE, kQ⟩ := hw
    walk_at "hs"
    refine HS.eqStr ?_
    walk_at "hs"
    refine HS.itd (fun he => ?_) (fun he => ?_)
    · walk_at "hs"
      intro p hp
      exact kQ [] (if_pos he) _ p (.new hp) hp upd_same
    have eR : readR t = (goR (Txt.split t " + ") 0).map spread := if_neg he
    walk_at "hs"
    intro F hF
    generalize hG_F : upd _ F _ = H1
    have at_F := HS.upgs hG_F
    have Kn_F := HS.upgK hG_F hF
    clear hG_F
    walk_at "hs"
    refine ⟨t, _, rfl, rfl, rfl, by have := HS.szl (n := t.length + 2) (by omega); exact this, ?_⟩
    have at_F1 := at_F
    intro P hP
    generalize hG_P : upd _ P _ = H2
    have at_P := HS.upgs hG_P
    have Kn_P := HS.upgK hG_P hP
    clear hG_P
    have at_F := Kn_P _ _ at_F id
    have pl := split_len t
    have pm : ∀ p ∈ Txt.split t " + ", p.length ≤ t.length := fun p hp => split_mem hp
    have K2 := Kn_F.trans Kn_P
    generalize Txt.split t " + " = parts at hm eR at_P pl pm ⊢
    walk_at "hs"
    refine ⟨⟨_, HS.sq at_P⟩, for_list (xs := parts.map V.str) (fun i σ H' => HS.Keep (fun a => a = F) H2 H' ∧ HS.Keep (fun _ => False) H H' ∧ ∃ (ps : List (Int × Int)) (vs : List V) (b : Int) (x3 x4 x5 : Option V), σ = [some (.str t), some (.ref F), some (.int b), x3, x4, x5, none] ∧ H' F = some (.lst vs) ∧ HS.Prs H' vs ps ∧ (goR (parts.drop i) b).map (fun r => ps ++ r) = goR parts 0 ∧ ps.length = i) ⟨.refl, K2, [], [], 0, _, _, _, rfl, at_F, trivial, by rw [List.drop_zero]; cases goR parts 0 <;> rfl, rfl⟩ (fun i σ H' _ ⟨K', _⟩ => HS.sq (K' _ _ at_P (ne_of_none at_F1 hP).symm)) ?_ ?_⟩
    · rintro i x σ H3 hi ⟨K3, K30, ps, vs, b, x3, x4, x5, rfl, hF3, hps, hgo, hpl⟩
      obtain ⟨w, rfl, hw⟩ : ∃ w, x = .str w ∧ parts[i]? = some w := by
        rw [List.getElem?_map] at hi
        cases e : parts[i]? with
        | none => rw [e] at hi; cases hi
        | some w => rw [e] at hi; exact ⟨w, (Option.some.inj hi).symm, rfl⟩
      have hil := (List.getElem?_eq_some_iff.mp hw).1
      have ed : parts.drop i = w :: parts.drop (i + 1) := by rw [List.drop_eq_getElem_cons hil]; congr 1; rw [List.getElem?_eq_getElem hil] at hw; exact Option.some.inj hw
      have wl := pm w (List.mem_of_getElem? hw)
      have vl := hps.len
      rw [ed, goR] at hgo
      walk_at "hs"
      refine ⟨w, rfl, by omega, fun H4 q K4 _ hq => ?_⟩
      have hF4 := K4 _ _ hF3 id
      have hps4 := HS.Prs.same hps K4
      have K40 := K30.trans K4
      have K42 := K3.trans K4.any
      walk_at "hs"
      generalize chR w = cw at hgo hq ⊢
      have bad : (cw.1 = 0 ∨ cw.2 = 0 ∨ cw.2 = b) → readR t = none := fun h => by
        rw [if_pos h] at hgo
        rw [eR, ← hgo]; rfl
      refine HS.itd (fun h1 => ?_) (fun h1 => ?_)
      · walk_at "hs"
        exact HS.mk1 (fun H' Q' E' b h1 h2 h3 h4 => ⟨b, _, _, rfl, h1, h2, h3, h4⟩) T.C_Unreadable T.n_Unreadable fun H' d k hd e => kE (bad (.inl h1)) H' d (K40.trans k) (K40.free hd id) e
      walk_at "hs"
      refine HS.itd (fun h2 => ?_) (fun h2 => ?_)
      · walk_at "hs"
        exact HS.mk1 (fun H' Q' E' b h1 h2 h3 h4 => ⟨b, _, _, rfl, h1, h2, h3, h4⟩) T.C_Unreadable T.n_Unreadable fun H' d k hd e => kE (bad (.inr (.inl h2))) H' d (K40.trans k) (K40.free hd id) e
      walk_at "hs"
      refine HS.itd (fun h3 => ?_) (fun h3 => ?_)
      · walk_at "hs"
        exact HS.mk1 (fun H' Q' E' b h1 h2 h3 h4 => ⟨b, _, _, rfl, h1, h2, h3, h4⟩) T.C_Unreadable T.n_Unreadable fun H' d k hd e => kE (bad (.inr (.inr h3))) H' d (K40.trans k) (K40.free hd id) e
      rw [if_neg (by omega)] at hgo
      walk_at "hs"
      intro u hu
      have hFu : F ≠ u := ne_of_none hF4 hu
      have hF5 : upd H4 u (.tup [.int cw.1, .int cw.2]) F = some (.lst vs) := by rw [upd_ne hFu]; exact hF4
      walk_at "hs"
      refine ⟨(K42.trans (HS.Keep.new hu).any).trans (HS.Keep.at HS.Keep.refl rfl), (K40.trans (.new hu)).put hF, ps ++ [cw], vs ++ [.ref u], _, _, _, _, rfl, upd_same, ?_, ?_, by rw [List.length_append, hpl]; rfl⟩
      · exact HS.Prs.snoc (HS.Prs.put hF5 (HS.Prs.new hu hps4)) (by rw [upd_ne (Ne.symm hFu)]; exact upd_same)
      · rw [← hgo]
        cases goR (parts.drop (i + 1)) cw.2 with
        | none => rfl
        | some r => show some (ps ++ [cw] ++ r) = some (ps ++ cw :: r); rw [List.append_assoc]; rfl
    · rintro σ H3 ⟨K3, K30, ps, vs, b, x3, x4, x5, rfl, hF3, hps, hgo, hpl⟩
      rw [List.length_map, List.drop_length, goR] at hgo
      have hgo' : goR parts 0 = some ps := by rw [← hgo]; show some (ps ++ []) = some ps; rw [List.append_nil]
      obtain ⟨sp, sm⟩ := hm ps hgo'
      have eR' : readR t = some (spread ps) := by rw [eR, hgo']; rfl
      have vl := hps.len
      walk_at "hs"
      have hF3' := hF3
      intro B hB
      generalize hG_B : upd _ B _ = H4
      have at_B := HS.upgs hG_B
      have Kn_B := HS.upgK hG_B hB
      clear hG_B
      have hF3 := Kn_B _ _ hF3 id
      have hps := HS.Prs.same hps Kn_B
      have K40 := K30.trans Kn_B
      have hFB : F ≠ B := ne_of_none hF3' hB
      walk_at "hs"
      refine ⟨⟨_, HS.sq hF3⟩, for_list (xs := vs) (fun i σ H' => HS.Keep (fun a => a = B) H4 H' ∧ HS.Keep (fun _ => False) H H' ∧ H' B = some (.lst ((spread (ps.take i)).map V.int)) ∧ ∃ (x4 x5 : Option V), σ = [some (.str t), some (.ref F), some (.int b), x3, x4, x5, some (.ref B)]) ⟨.refl, K40, at_B, _, _, rfl⟩ (fun i σ H' _ ⟨K', _⟩ => HS.sq (K' _ _ hF3 hFB)) ?_ ?_⟩
      · rintro i x σ H5 hi ⟨K5, K50, hB5, x4, x5, rfl⟩
        obtain ⟨q, p, rfl, hp, hq⟩ := HS.Prs.at hps hi
        have hqB : q ≠ B := fun z => by rw [z, at_B] at hq; cases hq
        have hq5 := K5 _ _ hq hqB
        have es := spread_take_succ hp
        have s1 := spread_take_le ps (i + 1)
        rw [es, List.length_append, List.length_replicate] at s1
        obtain ⟨m, z⟩ := p
        have s1' : (spread (ps.take i)).length + m.toNat ≤ (spread ps).length := s1
        have hq5' : H5 q = some (.tup [.int m, .int z]) := hq5
        have mn : 0 ≤ m := (goR_nn hgo' _ (List.mem_of_getElem? hp)).1
        have mx : m ≤ 1000000 := sm _ (List.mem_of_getElem? hp)
        walk_at "hs"
        intro u hu
        generalize hG_u : upd _ u _ = H6
        have at_u := HS.upgs hG_u
        have Kn_u := HS.upgK hG_u hu
        clear hG_u
        have hB5 := Kn_u _ _ hB5 id
        walk_at "hs"
        refine HS.rep1 at_u (by omega) (by omega) ?_
        intro v hv
        generalize hG_v : upd _ v _ = H7
        have at_v := HS.upgs hG_v
        have Kn_v := HS.upgK hG_v hv
        clear hG_v
        have hB5 := Kn_v _ _ hB5 id
        walk_at "hs"
        refine ⟨by rw [List.length_map, List.length_replicate]; exact Nat.le_trans (show _ ≤ 16000000 by omega) (by decide), ((K5.trans ((Kn_u.trans Kn_v).any)).trans (HS.Keep.at HS.Keep.refl rfl)), (K50.trans (Kn_u.trans Kn_v)).put (K30.free hB id), ?_, _, _, rfl⟩
        rw [upd_same, es, List.map_append, List.map_replicate]
      · rintro σ H5 ⟨K5, K50, hB5, x4, x5, rfl⟩
        rw [← vl.symm, List.take_length] at hB5
        walk_at "hs"
        exact kQ _ eR' _ B K50 (K30.free hB id) hB5
def sp__law_total (K : PySem.W.Frag) : Sp := fun vs H Q _ => ∃ (b : Addr) (ls : List Int) (j : Int), vs = [.ref b, .int j] ∧ (SqL K H b (ls.map V.int) ∧ 1 ≤ j ∧ j < 2 ^ 200 ∧ Q (.int (pcount ls j)) H)
theorem ok__law_total (T : Txt K mg A) : FnOk P w K mg base CX0 2 A.a__law_total A.d__law_total ["lengths", "wide"] (sp__law_total K) := by
  have G__law_sheets : FnOk P w K mg base CX0 1 A.a__law_sheets A.d__law_sheets ["long", "wide"] (sp__law_sheets K) := ok__law_sheets T
  refine T.F__law_total.ok sc__law_total (fun vs H Q E h => ?_) (fun cdv A0 outer s H vs Q E hr h => ?_)
  · obtain ⟨b, ls, j, rfl, hw⟩ := h
    rfl
  · obtain ⟨b, ls, j, rfl, hw⟩ := h
    refine ⟨_, (pss_cons (ps_set (i := 2) sc__law_total.nd rfl (.inl rfl) pe_int)
    (pss_cons (ps_for PassesOwn.never rfl (HS.kil K (pi_list (pv 0))) (pg_name (i := 3) sc__law_total.nd rfl (.inl rfl))
      (pss_one (ps_set (i := 2) sc__law_total.nd rfl (.inl rfl) (pe_op op_add (pv 2) (pe_call G__law_sheets hr (by rfl) T.g__law_sheets T.F__law_sheets.kp T.b__law_sheets .nil pass0 (pa_cons (pv 3) (pa_cons (pv 1) pa_nil)))))))
    (pss_one (ps_ret (pv 2))))), ?_⟩
    obtain ⟨h1, h3, h4, k⟩ := hw
    walk_at "hs"
    refine ⟨⟨_, h1⟩, for_list (xs := ls.map V.int) (fun i σ H' => H' = H ∧ ∃ x3, σ = [some (.ref b), some (.int j), some (.int (pcount (ls.take i) j)), x3]) ⟨rfl, _, rfl⟩ (fun i σ H' _ ⟨e, _⟩ => e ▸ h1) ?_ ?_⟩
    · rintro i x σ H' hi ⟨rfl, x3, rfl⟩
      obtain ⟨z, rfl, hz, hil⟩ := HS.get_int hi
      walk_at "hs"
      refine ⟨z, j, rfl, h3, h4, ?_⟩
      walk_at "hs"
      exact ⟨rfl, some (.int z), by rw [pcount_take j hz]; rfl⟩
    · rintro σ H' ⟨rfl, x3, rfl⟩
      walk_at "hs"
      rw [List.length_map, List.take_length]
      exact k
def sp__law_pages (K : PySem.W.Frag) : Sp := fun vs H Q _ => ∃ (b : Addr) (ls : List Int) (j : Int), vs = [.ref b, .int j] ∧ (SqL K H b (ls.map V.int) ∧ ls.length ≤ 100 ∧ (∀ x ∈ ls, 1 ≤ x ∧ x ≤ 100) ∧ 1 ≤ j ∧ j < 2 ^ 200 ∧ ∀ H' p vs ts, HS.Keep (fun _ => False) H H' → H p = none → H' p = some (.lst vs) → HS.Tri H' vs ts → (ts.length : Int) = pcount ls j → (∀ (n : Nat) t, ts[n]? = some t → SheetAt ls j n t) → Q (.ref p) H')
theorem ok__law_pages (T : Txt K mg A) : FnOk P w K mg base CX0 1 A.a__law_pages A.d__law_pages ["lengths", "wide"] (sp__law_pages K) := by
  refine T.F__law_pages.ok sc__law_pages (fun vs H Q E h => ?_) (fun cdv A0 outer s H vs Q E hr h => ?_)
  · obtain ⟨b, ls, j, rfl, hw⟩ := h
    rfl
  · obtain ⟨b, ls, j, rfl, hw⟩ := h
    refine ⟨_, (pss_cons (ps_set (i := 2) sc__law_pages.nd rfl (.inl rfl) (pe_lst pa_nil))
    (pss_cons (ps_for PassesOwn.never rfl (HS.kien K (pi_enum (by rfl) T.z_enumerate (pa_cons (pv 0) pa_nil))) (HS.kgt K (pg_tup rfl (pgs_cons (pg_name (i := 3) sc__law_pages.nd rfl (.inl rfl)) (pgs_cons (pg_name (i := 4) sc__law_pages.nd rfl (.inl rfl)) pgs_nil))))
      (pss_one (ps_for PassesOwn.never rfl (pi_range2 (by rfl) T.z_range (pa_cons pe_int (pa_cons (pe_op op_add (pv 4) pe_int) pa_nil))) (pg_name (i := 5) sc__law_pages.nd rfl (.inl rfl))
      (pss_one (ps_if (pt_cmpR op_eq (pe_op op_mod (pe_op op_sub (pv 5) pe_int) (pv 1)) pe_int (nomark _))
      (pss_one (ps_expr (HS.kbm K (pe_bm PySem.F.plainAttrs_list PySem.F.slot_list_append PySem.F.type_list_append mt_append (pv 2) (pa_cons (pe_tup (pa_cons (pe_op op_add (pv 3) pe_int) (pa_cons (pv 5) (pa_cons (pv 5) pa_nil)))) pa_nil)))))
      (pss_one (ps_asg (pe_tup (pa_cons (pe_op op_add (pv 3) pe_int) (pa_cons (pe_ix (HS.ixt K) (pe_ix (HS.ixl K) (pv 2) (pe_un un_neg pe_int) (fun _ _ => rfl)) pe_int (fun _ _ => rfl)) (pa_cons (pv 5) pa_nil)))) (pg_sub (pv 2) (pe_un un_neg pe_int) set_list))))))))
    (pss_one (ps_ret (pv 2))))), ?_⟩
    obtain ⟨hb, hl, hB, h1, h2, k⟩ := hw
    have hp : ∀ x ∈ ls, 1 ≤ x := fun x hx => (hB x hx).1
    walk_at "hs"
    intro F hF
    generalize hG_F : upd _ F _ = H1
    have at_F := HS.upgs hG_F
    have Kn_F := HS.upgK hG_F hF
    clear hG_F
    have hb1 := Kn_F.sq hb id
    walk_at "hs"
    have bnd : ∀ i : Nat, pcount (ls.take i) j ≤ 10000 := fun i => by
      have a := pcount_take_le hp h1 (show i ≤ i + ls.length by omega)
      rw [List.take_of_length_le (show ls.length ≤ i + ls.length by omega)] at a
      have s0 : ∀ xs : List Int, (∀ x ∈ xs, 1 ≤ x ∧ x ≤ 100) → pcount xs j ≤ 100 * xs.length := fun xs => by
        induction xs with
        | nil => intro _; rw [pcount_nil]; simp
        | cons x r ih =>
          intro h
          have hx := h x List.mem_cons_self
          have := ih fun y hy => h y (List.mem_cons_of_mem _ hy)
          rw [pcount_cons, List.length_cons]
          have : (x + j - 1) / j ≤ x := (ceil_le h1).mpr (by have := Int.mul_le_mul_of_nonneg_left h1 (show 0 ≤ x by omega); omega)
          push_cast; omega
      have := s0 ls hB
      omega
    refine ⟨b, ls.map V.int, rfl, hb1, for_it walk_enum (fun i σ H' => HS.Keep (fun _ => False) H H' ∧ ∃ (vs : List V) (ts : List (Int × Int × Int)) (x3 x4 x5 : Option V), σ = [some (.ref b), some (.int j), some (.ref F), x3, x4, x5] ∧ H' F = some (.lst vs) ∧ HS.Tri H' vs ts ∧ (ts.length : Int) = pcount (ls.take i) j ∧ ∀ (n : Nat) t, ts[n]? = some t → SheetAt ls j n t) ⟨Kn_F, [], [], _, _, _, rfl, at_F, trivial, rfl, fun n t h => by simp at h⟩ (fun i σ H' _ ⟨K', _⟩ => K'.sq hb id) ?_ ?_⟩
    · rintro i x σ H2 H3 hi ⟨K2, vs, ts, x3, x4, x5, rfl, hF2, hT, hlen, hsh⟩ ⟨T1, u, v, rfl, hT1, rfl, e1, e2⟩
      cases e1
      obtain ⟨z, rfl, hz, hil⟩ := HS.get_int e2
      have hzB := hB z (List.mem_of_getElem? hz)
      have KT : HS.Keep (fun _ => False) H2 (upd H2 T1 (.tup [.int (i : Nat), .int z])) := .new hT1
      have hF3 := KT _ _ hF2 id
      have hT3 := upd_same (H := H2) (a := T1) (o := .tup [.int (i : Nat), .int z])
      have hTr := hT.same KT
      have K3 := K2.trans KT
      generalize upd H2 T1 (.tup [.int (i : Nat), .int z]) = H3 at KT hF3 hT3 hTr K3 ⊢
      have P0 := pcount_pos (take_all hp i) h1
      walk_at "hs"
      refine ⟨by omega, ?_⟩
      rw [show (z + 1 - 1).toNat = z.toNat by omega]
      refine for_range (lo := 1) (n := z.toNat) (fun m σ H' => HS.Keep (fun _ => False) H H' ∧ ∃ (vs : List V) (ts : List (Int × Int × Int)) (x5 : Option V), σ = [some (.ref b), some (.int j), some (.ref F), some (.int i), some (.int z), x5] ∧ H' F = some (.lst vs) ∧ HS.Tri H' vs ts ∧ InCh ls j i (pcount (ls.take i) j) m ts) ⟨K3, vs, ts, _, rfl, hF3, hTr, InCh.start h1 hlen hsh⟩ ?_ ?_
      · rintro m σ H4 hm ⟨K4, vs, ts, x5, rfl, hF4, hTr, hI⟩
        have vl := hTr.len
        have tl := hI.len
        have bi := bnd i
        have cm : ((m : Int) + j - 1) / j ≤ m := (ceil_le h1).mpr (by have := Int.mul_le_mul_of_nonneg_left h1 (show 0 ≤ (m : Int) by omega); omega)
        walk_at "hs"
        rw [show 1 + (m : Int) - 1 = m by omega]
        refine HS.itd (fun h0 => ?_) (fun h0 => ?_)
        · walk_at "hs"
          intro q hq
          have hF5 := HS.Keep.new (S := fun _ => False) (o := .tup [.int ((i : Int) + 1), .int (1 + (m : Nat)), .int (1 + (m : Nat))]) hq _ _ hF4 id
          have hq5 := upd_same (H := H4) (a := q) (o := .tup [.int ((i : Int) + 1), .int (1 + (m : Nat)), .int (1 + (m : Nat))])
          have hTr5 := hTr.same (HS.Keep.new (o := .tup [.int ((i : Int) + 1), .int (1 + (m : Nat)), .int (1 + (m : Nat))]) hq)
          have K5 := K4.trans (HS.Keep.new (o := .tup [.int ((i : Int) + 1), .int (1 + (m : Nat)), .int (1 + (m : Nat))]) hq)
          have hFq : F ≠ q := ne_of_none hF4 hq
          walk_at "hs"
          refine ⟨K5.put hF, vs ++ [.ref q], ts ++ [((i : Int) + 1, (m : Int) + 1, (m : Int) + 1)], _, rfl, upd_same, ?_, by push_cast; exact hI.open h1 h0 P0 (by omega)⟩
          refine (HS.Tri.put hF5 hTr5).app ⟨⟨q, rfl, ?_⟩, trivial⟩
          rw [upd_ne (Ne.symm hFq), hq5, Int.add_comm 1 (m : Int)]
        · have c1 := (ceil_mod1 h1 h0).1
          have q0 : 0 ≤ (m : Int) / j := Int.ediv_nonneg (by omega) (by omega)
          obtain ⟨ts0, t0, rfl⟩ : ∃ ts0 t0, ts = ts0 ++ [t0] := by
            have : ts ≠ [] := fun z => by rw [z] at tl; simp at tl; omega
            exact ⟨ts.dropLast, ts.getLast this, (List.dropLast_concat_getLast this).symm⟩
          obtain ⟨us, q, rfl, hTr0, hq⟩ := hTr.split
          walk_at "hs"
          refine ⟨F, _, -1, _, rfl, rfl, HS.sq hF4, HS.atLst (ys := us) rfl, ?_⟩
          walk_at "hs"
          intro r hr1
          have hF5 := HS.Keep.new (S := fun _ => False) (o := .tup [.int ((i : Int) + 1), .int t0.2.1, .int (1 + (m : Nat))]) hr1 _ _ hF4 id
          have hr5 := upd_same (H := H4) (a := r) (o := .tup [.int ((i : Int) + 1), .int t0.2.1, .int (1 + (m : Nat))])
          have hTr5 := hTr0.same (HS.Keep.new (o := .tup [.int ((i : Int) + 1), .int t0.2.1, .int (1 + (m : Nat))]) hr1)
          have K5 := K4.trans (HS.Keep.new (o := .tup [.int ((i : Int) + 1), .int t0.2.1, .int (1 + (m : Nat))]) hr1)
          have hFr : F ≠ r := ne_of_none hF4 hr1
          walk_at "hs"
          refine HS.setLst hF5 ?_
          walk_at "hs"
          refine ⟨K5.put hF, us ++ [.ref r], ts0 ++ [((i : Int) + 1, t0.2.1, (m : Int) + 1)], _, rfl, upd_same, ?_, by push_cast; exact hI.more h1 h0 P0 (by omega)⟩
          refine (HS.Tri.put hF5 hTr5).app ⟨⟨r, rfl, ?_⟩, trivial⟩
          rw [upd_ne (Ne.symm hFr), hr5, Int.add_comm 1 (m : Int)]
      · rintro σ H4 ⟨K4, vs, ts, x5, rfl, hF4, hTr, hI⟩
        rw [show ((z.toNat : Nat) : Int) = z by omega] at hI
        obtain ⟨a, c⟩ := hI.sheets hz
        walk_at "hs"
        exact ⟨K4, vs, ts, _, _, _, rfl, hF4, hTr, a, c⟩
    · rintro σ H2 ⟨K2, vs, ts, x3, x4, x5, rfl, hF2, hT, hlen, hsh⟩
      rw [List.length_map, List.take_length] at hlen
      walk_at "hs"
      exact k _ F vs ts K2 hF hF2 hT hlen hsh
def sp__law_small_right (K : PySem.W.Frag) : Sp := fun vs H Q _ => ∃ (b : Addr) (ls : List Int) (j : Int), vs = [.ref b, .int j] ∧ (SqL K H b (ls.map V.int) ∧ ls.length ≤ 100 ∧ (∀ x ∈ ls, 1 ≤ x ∧ x ≤ 100) ∧ 1 ≤ j ∧ j < 2 ^ 100 ∧ ∀ H', HS.Keep (fun _ => False) H H' → Q (.bl true) H')
theorem ok__law_small_right (T : Txt K mg A) : FnOk P w K mg base CX0 5 A.a__law_small_right A.d__law_small_right ["lengths", "wide"] (sp__law_small_right K) := by
  have G__law_pages : FnOk P w K mg base CX0 1 A.a__law_pages A.d__law_pages ["lengths", "wide"] (sp__law_pages K) := ok__law_pages T
  have G_lines_on : FnOk P w K mg base CX0 3 A.a_lines_on A.d_lines_on ["book", "size", "page"] (sp_lines_on K) := ok_lines_on T
  have G__law_same : FnOk P w K mg base CX0 4 A.a__law_same A.d__law_same ["found", "wanted"] (sp__law_same 3 K) := ok__law_same T 3
  have G_page_of : FnOk P w K mg base CX0 3 A.a_page_of A.d_page_of ["book", "size", "chapter", "line"] (sp_page_of K) := ok_page_of T
  refine T.F__law_small_right.ok sc__law_small_right (fun vs H Q E h => ?_) (fun cdv A0 outer s H vs Q E hr h => ?_)
  · obtain ⟨b, ls, j, rfl, hw⟩ := h
    rfl
  · obtain ⟨b, ls, j, rfl, hw⟩ := h
    refine ⟨_, (pss_cons (ps_set (i := 2) sc__law_small_right.nd rfl (.inl rfl) (pe_call G__law_pages (hr.mono (by decide)) (by rfl) T.g__law_pages T.F__law_pages.kp T.b__law_pages .nil pass0 (pa_cons (pv 0) (pa_cons (pv 1) pa_nil))))
    (pss_cons (ps_for PassesOwn.never rfl (HS.kien K (pi_enum (by rfl) T.z_enumerate (pa_cons (pv 2) pa_nil))) (HS.kgt K (pg_tup rfl (pgs_cons (pg_name (i := 3) sc__law_small_right.nd rfl (.inl rfl)) (pgs_cons (pg_name (i := 4) sc__law_small_right.nd rfl (.inl rfl)) pgs_nil))))
      (pss_cons (ps_set (i := 5) sc__law_small_right.nd rfl (.inl rfl) (pe_lst (pa_cons (pe_call G_lines_on (hr.mono (by decide)) (by rfl) T.g_lines_on T.F_lines_on.kp T.b_lines_on .nil pass0 (pa_cons (pv 0) (pa_cons (pv 1) (pa_cons (pe_op op_add (pv 3) pe_int) pa_nil)))) (pa_cons (HS.pe_kw0 G_lines_on (hr.mono (by decide)) (by rfl) T.g_lines_on T.F_lines_on.kp T.kb_lines_on_0_page_size_book pass0 (pk_cons (pe_op op_add (pv 3) pe_int) (pk_cons (pv 1) (pk_cons (pv 0) pk_nil)))) pa_nil))))
    (pss_cons (ps_if (pt_not (pt_val (pe_call G__law_same hr (by rfl) T.g__law_same T.F__law_same.kp T.b__law_same .nil pass0 (pa_cons (pv 5) (pa_cons (pe_op op_rep (pe_lst (pa_cons (pv 4) pa_nil)) pe_int) pa_nil)))))
      (pss_one (ps_ret pe_bl))
      pss_nil)
    (pss_one (ps_for PassesOwn.never rfl (pi_range2 (by rfl) T.z_range (pa_cons (pe_ix (HS.ixt K) (pv 4) pe_int (fun _ _ => rfl)) (pa_cons (pe_op op_add (pe_ix (HS.ixt K) (pv 4) pe_int (fun _ _ => rfl)) pe_int) pa_nil))) (pg_name (i := 6) sc__law_small_right.nd rfl (.inl rfl))
      (pss_cons (ps_set (i := 5) sc__law_small_right.nd rfl (.inl rfl) (pe_lst (pa_cons (pe_call G_page_of (hr.mono (by decide)) (by rfl) T.g_page_of T.F_page_of.kp T.b_page_of .nil pass0 (pa_cons (pv 0) (pa_cons (pv 1) (pa_cons (pe_ix (HS.ixt K) (pv 4) pe_int (fun _ _ => rfl)) (pa_cons (pv 6) pa_nil))))) pa_nil)))
    (pss_cons (ps_expr (HS.kbm K (pe_bm PySem.F.plainAttrs_list PySem.F.slot_list_append PySem.F.type_list_append mt_append (pv 5) (pa_cons (HS.pe_kw0 G_page_of (hr.mono (by decide)) (by rfl) T.g_page_of T.F_page_of.kp T.kb_page_of_0_line_chapter_size_book pass0 (pk_cons (pv 6) (pk_cons (pe_ix (HS.ixt K) (pv 4) pe_int (fun _ _ => rfl)) (pk_cons (pv 1) (pk_cons (pv 0) pk_nil))))) pa_nil))))
    (pss_one (ps_if (pt_not (pt_val (pe_call G__law_same hr (by rfl) T.g__law_same T.F__law_same.kp T.b__law_same .nil pass0 (pa_cons (pv 5) (pa_cons (pe_op op_rep (pe_lst (pa_cons (pe_op op_add (pv 3) pe_int) pa_nil)) pe_int) pa_nil)))))
      (pss_one (ps_ret pe_bl))
      pss_nil)))))))))
    (pss_one (ps_ret pe_bl)))), ?_⟩
    obtain ⟨hb, hl, hB, h1, h2, k⟩ := hw
    have hp : ∀ x ∈ ls, 1 ≤ x := fun x hx => (hB x hx).1
    have ps := pcount_small h1 hB
    walk_at "hs"
    refine ⟨b, ls, j, rfl, hb, hl, hB, h1, by omega, fun H1 P vs ts K1 hP0 hP hT hlen hsh => ?_⟩
    have hb1 := K1.sq hb id
    walk_at "hs"
    refine ⟨P, vs, rfl, HS.sq hP, for_it walk_enum (fun i σ H' => HS.Keep (fun _ => False) H1 H' ∧ ∃ x3 x4 x5 x6, σ = [some (.ref b), some (.int j), some (.ref P), x3, x4, x5, x6]) ⟨.refl, _, _, _, _, rfl⟩ (fun i σ H' _ ⟨K', _⟩ => K'.sq (HS.sq hP) id) ?_ ?_⟩
    · rintro i x σ H2 H3 hi ⟨K2, x3, x4, x5, x6, rfl⟩ ⟨T1, u, v, rfl, hT1, rfl, e1, e2⟩
      cases e1
      obtain ⟨t, p, rfl, hpi, ht⟩ := hT.at e2
      obtain ⟨c, z, hz, g1, g2, ep⟩ := hsh i p hpi
      rw [ep] at ht
      have il : (i : Int) < ts.length := by have := (List.getElem?_eq_some_iff.mp hpi).1; omega
      have ht2 := K2 _ _ ht id
      have KT : HS.Keep (fun _ => False) H2 (upd H2 T1 (.tup [.int (i : Nat), .ref t])) := .new hT1
      have ht3 := KT _ _ ht2 id
      have hT3 := upd_same (H := H2) (a := T1) (o := .tup [.int (i : Nat), .ref t])
      have K3 := K2.trans KT
      generalize upd H2 T1 (.tup [.int (i : Nat), .ref t]) = H3 at KT ht3 hT3 K3 ⊢
      have hb3 := K3.sq hb1 id
      have pc := pcount_pos (take_all hp c) h1
      walk_at "hs"
      refine ⟨b, ls, j, (i : Int) + 1, rfl, hb3, hp, by omega, h1, by omega, by omega, by omega, by omega, fun H4 t1 c1 z1 K4 ht1n hz1 a1 a2 ht1 => ?_⟩
      have ec := chap_uniq hp h1 a1 a2 (show pcount (ls.take c) j < (i : Int) + 1 by omega) (by omega)
      subst ec
      have ez : z = z1 := by rw [hz] at hz1; exact Option.some.inj hz1
      subst ez
      have hb4 := K4.sq hb3 id
      walk_at "hs"
      refine ⟨b, ls, j, (i : Int) + 1, rfl, hb4, hp, by omega, h1, by omega, by omega, by omega, by omega, fun H5 t2 c2 z2 K5 ht2n hz2 b1 b2 ht2' => ?_⟩
      have ec := chap_uniq hp h1 b1 b2 a1 a2
      subst ec
      have ez : z = z2 := by rw [hz] at hz2; exact Option.some.inj hz2
      subst ez
      have hb5 := K5.sq hb4 id
      have ht1 := K5 _ _ ht1 id
      have ht5 := K5 _ _ (K4 _ _ ht3 id) id
      walk_at "hs"
      intro q hq
      generalize hG_q : upd _ q _ = H6
      have at_q := HS.upgs hG_q
      have Kn_q := HS.upgK hG_q hq
      clear hG_q
      replace ht1 := Kn_q _ _ ht1 id
      replace ht2' := Kn_q _ _ ht2' id
      replace ht5 := Kn_q _ _ ht5 id
      walk_at "hs"
      intro r hr1
      generalize hG_r : upd _ r _ = H7
      have at_r := HS.upgs hG_r
      have Kn_r := HS.upgK hG_r hr1
      clear hG_r
      replace ht1 := Kn_r _ _ ht1 id
      replace ht2' := Kn_r _ _ ht2' id
      replace ht5 := Kn_r _ _ ht5 id
      replace at_q := Kn_r _ _ at_q id
      walk_at "hs"
      refine HS.rep1 at_r (by decide) (by decide) ?_
      intro s hs
      generalize hG_s : upd _ s _ = H8
      have at_s := HS.upgs hG_s
      have Kn_s := HS.upgK hG_s hs
      clear hG_s
      replace ht1 := Kn_s _ _ ht1 id
      replace ht2' := Kn_s _ _ ht2' id
      replace ht5 := Kn_s _ _ ht5 id
      replace at_q := Kn_s _ _ at_q id
      walk_at "hs"
      have e1 : ((c2 + 1 : Nat) : Int) = (c2 : Int) + 1 := by push_cast; rfl
      have e2 : (i : Int) + 1 - pcount (ls.take c2) j - 1 = i - pcount (ls.take c2) j := by omega
      refine ⟨.ref q, .ref s, rfl, HS.sm2 at_q at_s (HS.smT3 ht1 ht5 e1 (by rw [e2]) (by rw [e2])) (HS.smT3 ht2' ht5 e1 (by rw [e2]) (by rw [e2])), fun H9 K9 => ?_⟩
      have K39 := K4.trans (K5.trans (Kn_q.trans (Kn_r.trans (Kn_s.trans K9))))
      have hb9 := K39.sq hb3 id
      have ht9 := K39 _ _ ht3 id
      generalize hk : (i : Int) - pcount (ls.take c2) j = kk at ht9 e2
      have kk0 : 0 ≤ kk := by omega
      have kj : 0 ≤ kk * j := Int.mul_nonneg kk0 (by omega)
      have kz : kk * j + 1 ≤ z := by
        rw [pcount_take j hz] at g2
        rcases Int.lt_or_le (kk * j) z with h | h
        · omega
        · have := (ceil_le (x := z) (q := kk) h1).mpr h
          omega
      have hzB := hB z (List.mem_of_getElem? hz)
      walk_at "hs"
      refine ⟨by simp only [Int.min_def]; split <;> omega, ?_⟩
      refine for_range (lo := kk * j + 1) (n := _) (fun m σ H' => HS.Keep (fun _ => False) H1 H' ∧ ∃ x5 x6, σ = [some (.ref b), some (.int j), some (.ref P), some (.int i), some (.ref t), x5, x6]) ⟨K3.trans K39, _, _, rfl⟩ ?_ ?_
      · rintro m σ Ha hm ⟨Ka, x5, x6, rfl⟩
        have hm' : kk * j + 1 + (m : Int) ≤ kk * j + j ∧ kk * j + 1 + (m : Int) ≤ z := by
          simp only [Int.min_def] at hm
          split at hm <;> omega
        have hba := Ka.sq hb1 id
        have hta := Ka _ _ ht id
        have val : pcount (ls.take ((c2 : Int) + 1 - 1).toNat) j + (kk * j + 1 + (m : Int) + j - 1) / j = (i : Int) + 1 := by
          rw [page_here (k := kk) h1 (by omega) hm'.1, show ((c2 : Int) + 1 - 1).toNat = c2 by omega]
          omega
        walk_at "hs"
        refine ⟨b, ls, j, (c2 : Int) + 1, kk * j + 1 + (m : Int), z, rfl, hba, hp, by omega, h1, by omega, by omega, by rw [show ((c2 : Int) + 1 - 1).toNat = c2 by omega]; exact hz, by omega, hm'.2, fun Hb Kb => ?_⟩
        rw [val]
        have hbb := Kb.sq hba id
        have htb := Kb _ _ hta id
        walk_at "hs"
        intro q2 hq2
        generalize hG_q2 : upd _ q2 _ = Hc
        have at_q2 := HS.upgs hG_q2
        have Kn_q2 := HS.upgK hG_q2 hq2
        clear hG_q2
        replace htb := Kn_q2 _ _ htb id
        have hbc := Kn_q2.sq hbb id
        walk_at "hs"
        refine ⟨b, ls, j, (c2 : Int) + 1, kk * j + 1 + (m : Int), z, rfl, hbc, hp, by omega, h1, by omega, by omega, by rw [show ((c2 : Int) + 1 - 1).toNat = c2 by omega]; exact hz, by omega, hm'.2, fun Hd Kd => ?_⟩
        rw [val]
        have hqd := Kd _ _ at_q2 id
        have K1d := Ka.trans (Kb.trans (Kn_q2.trans Kd))
        have hq0 := (Ka.trans Kb).free hq2 id
        walk_at "hs"
        have hqe := upd_same (H := Hd) (a := q2) (o := .lst ([.int ((i : Int) + 1)] ++ [.int ((i : Int) + 1)]))
        have K1e := K1d.put (o := .lst ([.int ((i : Int) + 1)] ++ [.int ((i : Int) + 1)])) hq0
        generalize upd Hd q2 (.lst ([.int ((i : Int) + 1)] ++ [.int ((i : Int) + 1)])) = He at hqe K1e ⊢
        walk_at "hs"
        intro r2 hr2
        generalize hG_r2 : upd _ r2 _ = Hf
        have at_r2 := HS.upgs hG_r2
        have Kn_r2 := HS.upgK hG_r2 hr2
        clear hG_r2
        replace hqe := Kn_r2 _ _ hqe id
        walk_at "hs"
        refine HS.rep1 at_r2 (by decide) (by decide) ?_
        intro s2 hs2
        generalize hG_s2 : upd _ s2 _ = Hg
        have at_s2 := HS.upgs hG_s2
        have Kn_s2 := HS.upgK hG_s2 hs2
        clear hG_s2
        replace hqe := Kn_s2 _ _ hqe id
        walk_at "hs"
        refine ⟨.ref q2, .ref s2, rfl, HS.sm2 hqe at_s2 (.int _) (.int _), fun Hh Kh => ?_⟩
        walk_at "hs"
        exact ⟨K1e.trans (Kn_r2.trans (Kn_s2.trans Kh)), _, _, rfl⟩
      · rintro σ Ha ⟨Ka, x5, x6, rfl⟩
        walk_at "hs"
        exact ⟨Ka, _, _, _, _, rfl⟩
    · rintro σ H2 ⟨K2, x3, x4, x5, x6, rfl⟩
      walk_at "hs"
      exact k _ (K1.trans K2)
def sp__law_great_right (K : PySem.W.Frag) : Sp := fun vs H Q _ => ∃ (s d b : Addr) (ls : List Int) (j : Int) (n : Nat), vs = [.ref s, .ref b, .int j] ∧ (Src H s d n ∧ SqL K H b (ls.map V.int) ∧ b ≠ s ∧ b ≠ d ∧ 0 < ls.length ∧ ls.length ≤ 1000 ∧ Book ls ∧ 1 ≤ j ∧ j < 10 ^ 30 ∧ n < 2 ^ 38 ∧ ∀ H', HS.Keep (fun a => a = s ∨ a = d) H H' → Src H' s d (n + 5) → Q (.bl true) H')
theorem ok__law_great_right (T : Txt K mg A) : FnOk P w K mg base CX0 5 A.a__law_great_right A.d__law_great_right ["source", "lengths", "wide"] (sp__law_great_right K) := by
  have G__law_draw : FnOk P w K mg base CX0 1 A.a__law_draw A.d__law_draw ["source", "many"] (sp__law_draw K) := ok__law_draw T
  have G__law_total : FnOk P w K mg base CX0 2 A.a__law_total A.d__law_total ["lengths", "wide"] (sp__law_total K) := ok__law_total T
  have G_page_of : FnOk P w K mg base CX0 3 A.a_page_of A.d_page_of ["book", "size", "chapter", "line"] (sp_page_of K) := ok_page_of T
  have G__law_same : FnOk P w K mg base CX0 4 A.a__law_same A.d__law_same ["found", "wanted"] (sp__law_same 3 K) := ok__law_same T 3
  have G__law_sheets : FnOk P w K mg base CX0 1 A.a__law_sheets A.d__law_sheets ["long", "wide"] (sp__law_sheets K) := ok__law_sheets T
  have G_lines_on : FnOk P w K mg base CX0 3 A.a_lines_on A.d_lines_on ["book", "size", "page"] (sp_lines_on K) := ok_lines_on T
  refine T.F__law_great_right.ok sc__law_great_right (fun vs H Q E h => ?_) (fun cdv A0 outer s H vs Q E hr h => ?_)
  · obtain ⟨s, d, b, ls, j, n, rfl, hw⟩ := h
    rfl
  · obtain ⟨s, d, b, ls, j, n, rfl, hw⟩ := h
    refine ⟨_, (pss_cons (ps_set (i := 3) sc__law_great_right.nd rfl (.inl rfl) (pe_call G__law_draw (hr.mono (by decide)) (by rfl) T.g__law_draw T.F__law_draw.kp T.b__law_draw .nil pass0 (pa_cons (pv 0) (pa_cons (pe_callB (HS.klen K) (by rfl) T.z_len PySem.boot_len (pa_cons (pv 1) pa_nil)) pa_nil))))
    (pss_cons (ps_par (i := 4) (j := 5) rfl sc__law_great_right.nd rfl rfl (by decide) rfl rfl (pa_cons (pe_call G__law_total (hr.mono (by decide)) (by rfl) T.g__law_total T.F__law_total.kp T.b__law_total .nil pass0 (pa_cons (pe_slice (HS.sll K) (pv 1) po_none (po_some (pv 3))) (pa_cons (pv 2) pa_nil))) (pa_cons (pe_ix (HS.ixl K) (pv 1) (pv 3) (fun _ _ => rfl)) pa_nil)) (by rfl))
    (pss_cons (ps_set (i := 6) sc__law_great_right.nd rfl (.inl rfl) (pe_lst (pa_cons pe_int (pa_cons (pv 5) (pa_cons (pe_callB (call_min2 rfl) (by rfl) T.z_min (by decide +kernel) (pa_cons (pv 5) (pa_cons (pv 2) pa_nil))) (pa_cons (pe_callB (call_min2 rfl) (by rfl) T.z_min (by decide +kernel) (pa_cons (pv 5) (pa_cons (pe_op op_add (pv 2) pe_int) pa_nil))) (pa_cons (pe_op op_add pe_int (pe_call G__law_draw (hr.mono (by decide)) (by rfl) T.g__law_draw T.F__law_draw.kp T.b__law_draw .nil pass0 (pa_cons (pv 0) (pa_cons (pv 5) pa_nil)))) pa_nil)))))))
    (pss_cons (ps_set (i := 7) sc__law_great_right.nd rfl (.inl rfl) (pe_ix (HS.ixl K) (pv 6) (pe_call G__law_draw (hr.mono (by decide)) (by rfl) T.g__law_draw T.F__law_draw.kp T.b__law_draw .nil pass0 (pa_cons (pv 0) (pa_cons pe_int pa_nil))) (fun _ _ => rfl)))
    (pss_cons (ps_set (i := 8) sc__law_great_right.nd rfl (.inl rfl) (pe_call G_page_of (hr.mono (by decide)) (by rfl) T.g_page_of T.F_page_of.kp T.b_page_of .nil pass0 (pa_cons (pv 1) (pa_cons (pv 2) (pa_cons (pe_op op_add (pv 3) pe_int) (pa_cons (pv 7) pa_nil))))))
    (pss_cons (ps_if (pt_not (pt_val (pe_call G__law_same hr (by rfl) T.g__law_same T.F__law_same.kp T.b__law_same .nil pass0 (pa_cons (pv 8) (pa_cons (pe_op op_add (pv 4) (pe_call G__law_sheets (hr.mono (by decide)) (by rfl) T.g__law_sheets T.F__law_sheets.kp T.b__law_sheets .nil pass0 (pa_cons (pv 7) (pa_cons (pv 2) pa_nil)))) pa_nil)))))
      (pss_one (ps_ret pe_bl))
      pss_nil)
    (pss_cons (ps_set (i := 9) sc__law_great_right.nd rfl (.inl rfl) (pe_op op_sub (pv 7) (pe_op op_mod (pe_op op_sub (pv 7) pe_int) (pv 2))))
    (pss_cons (ps_if (pt_not (pt_val (pe_call G__law_same hr (by rfl) T.g__law_same T.F__law_same.kp T.b__law_same .nil pass0 (pa_cons (pe_call G_lines_on (hr.mono (by decide)) (by rfl) T.g_lines_on T.F_lines_on.kp T.b_lines_on .nil pass0 (pa_cons (pv 1) (pa_cons (pv 2) (pa_cons (pv 8) pa_nil)))) (pa_cons (pe_tup (pa_cons (pe_op op_add (pv 3) pe_int) (pa_cons (pv 9) (pa_cons (pe_callB (call_min2 rfl) (by rfl) T.z_min (by decide +kernel) (pa_cons (pv 5) (pa_cons (pe_op op_sub (pe_op op_add (pv 9) (pv 2)) pe_int) pa_nil))) pa_nil)))) pa_nil)))))
      (pss_one (ps_ret pe_bl))
      pss_nil)
    (pss_cons (ps_set (i := 10) sc__law_great_right.nd rfl (.inl rfl) (pe_call G__law_draw (hr.mono (by decide)) (by rfl) T.g__law_draw T.F__law_draw.kp T.b__law_draw .nil pass0 (pa_cons (pv 0) (pa_cons (pe_call G__law_sheets (hr.mono (by decide)) (by rfl) T.g__law_sheets T.F__law_sheets.kp T.b__law_sheets .nil pass0 (pa_cons (pv 5) (pa_cons (pv 2) pa_nil))) pa_nil))))
    (pss_cons (ps_set (i := 8) sc__law_great_right.nd rfl (.inl rfl) (pe_call G_page_of (hr.mono (by decide)) (by rfl) T.g_page_of T.F_page_of.kp T.b_page_of .nil pass0 (pa_cons (pv 1) (pa_cons (pv 2) (pa_cons (pe_op op_add (pv 3) pe_int) (pa_cons (pe_op op_add (pe_op op_mulW (pv 10) (pv 2)) pe_int) pa_nil))))))
    (pss_cons (ps_set (i := 11) sc__law_great_right.nd rfl (.inl rfl) (pe_tup (pa_cons (pe_op op_add (pv 3) pe_int) (pa_cons (pe_op op_add (pe_op op_mulW (pv 10) (pv 2)) pe_int) (pa_cons (pe_callB (call_min2 rfl) (by rfl) T.z_min (by decide +kernel) (pa_cons (pe_op op_mulW (pe_op op_add (pv 10) pe_int) (pv 2)) (pa_cons (pv 5) pa_nil))) pa_nil)))))
    (pss_one (ps_ret (pe_call G__law_same hr (by rfl) T.g__law_same T.F__law_same.kp T.b__law_same .nil pass0 (pa_cons (pe_lst (pa_cons (pv 8) (pa_cons (pe_call G_lines_on (hr.mono (by decide)) (by rfl) T.g_lines_on T.F_lines_on.kp T.b_lines_on .nil pass0 (pa_cons (pv 1) (pa_cons (pv 2) (pa_cons (pv 8) pa_nil)))) pa_nil))) (pa_cons (pe_lst (pa_cons (pe_op op_add (pe_op op_add (pv 4) (pv 10)) pe_int) (pa_cons (pv 11) pa_nil))) pa_nil)))))))))))))))), ?_⟩
    obtain ⟨S0, hb, bs, bd, hl0, hl, hB, h1, h2, hn, k⟩ := hw
    have hp : ∀ x ∈ ls, 1 ≤ x := fun x hx => (hB x hx).1
    have sb := sum_book hB
    walk_at "hs"
    rw [List.length_map]
    refine ⟨s, d, _, n, rfl, S0, by omega, by omega, by omega, fun H1 at0 K1 S1 a0 a1 => ?_⟩
    have hb1 := K1.sq hb (by walk_at "ns")
    obtain ⟨c, rfl⟩ := Int.eq_ofNat_of_zero_le a0
    have hc : c < ls.length := by omega
    obtain ⟨z, hz⟩ : ∃ z, ls[c]? = some z := ⟨_, List.getElem?_eq_getElem hc⟩
    have hzB := hB z (List.mem_of_getElem? hz)
    walk_at "hs"
    intro p1 hp1
    have K2 := K1.trans (HS.Keep.new (o := .lst (cutV (ls.map V.int) none (some (c : Int)))) hp1)
    have S2 := S1.new (o := .lst (cutV (ls.map V.int) none (some (c : Int)))) hp1
    have at2 := upd_same (H := H1) (a := p1) (o := .lst (cutV (ls.map V.int) none (some (c : Int))))
    rw [HS.cut_toI ls (by omega), show ((c : Int)).toNat = c by omega] at K2 S2 at2 ⊢
    generalize upd H1 p1 (.lst ((ls.take c).map V.int)) = H2 at K2 S2 at2 ⊢
    have hb2 := K2.sq hb (by walk_at "ns")
    walk_at "hs"
    refine ⟨p1, ls.take c, j, rfl, HS.sq at2, h1, by omega, ?_⟩
    walk_at "hs"
    refine HS.ixZ hb2 (by omega) (by rw [show ((c : Int)).toNat = c by omega]; exact hz) ?_
    walk_at "hs"
    refine ⟨s, d, z, _, rfl, S2, by omega, by omega, by omega, fun H3 e K3 S3 e0 e1 => ?_⟩
    have K23 := K2.trans K3
    have pc0 := pcount_pos (take_all hp c) h1
    have pcb := pcount_take_le hp h1 (show c ≤ ls.length by omega)
    rw [List.take_length] at pcb
    have psum := pcount_sum hp sb.1 h1
    walk_at "hs"
    intro q hq
    have q1 := S3.ne1 hq
    have q2 := S3.ne2 hq
    walk_at "hs"
    refine ⟨s, d, 5, _, rfl, S3.new hq, by decide, by decide, by omega, fun H4 w K4 S4 w0 w1 => ?_⟩
    have K34 : HS.Keep (fun a => a = s ∨ a = d) H H4 := K23.trans (HS.Keep.trans (HS.Keep.new hq) K4)
    have hq4 := K4 _ _ (upd_same (H := H3) (a := q)) (by walk_at "ns")
    have hb4 := K34.sq hb (by walk_at "ns")
    refine HS.ixI [1, z, _, _, 1 + e] (HS.sq hq4) w0 w1 fun sp _ hsp => ?_
    have hsp' : 1 ≤ sp ∧ sp ≤ z := by
      simp only [List.mem_cons, List.not_mem_nil, or_false] at hsp
      rcases hsp with h | h | h | h | h
      · omega
      · omega
      · subst h; split <;> omega
      · subst h; split <;> omega
      · omega
    have ez : ls[((c : Int) + 1 - 1).toNat]? = some z := by rw [show ((c : Int) + 1 - 1).toNat = c by omega]; exact hz
    have et : ((c : Int) + 1 - 1).toNat = c := by omega
    walk_at "hs"
    refine ⟨b, ls, j, (c : Int) + 1, sp, z, rfl, hb4, hp, by omega, h1, by omega, by omega, ez, hsp'.1, hsp'.2, fun H5 K5 => ?_⟩
    rw [et]
    have hb5 := K5.sq hb4 id
    have S5 := S4.same K5
    walk_at "hs"
    refine ⟨sp, j, rfl, h1, by omega, ?_⟩
    walk_at "hs"
    refine ⟨.int _, .int _, rfl, .int _, fun H6 K6 => ?_⟩
    have hb6 := K6.sq hb5 id
    have S6 := S5.same K6
    walk_at "hs"
    have c1 := ceil_pos hsp'.1 h1
    have c2 : (sp + j - 1) / j ≤ (z + j - 1) / j := Int.ediv_le_ediv (by omega) (by omega)
    have ptk := pcount_take j hz
    have pbb := pcount_take_le hp h1 (show c + 1 ≤ ls.length by omega)
    rw [List.take_length] at pbb
    refine ⟨b, ls, j, _, rfl, hb6, hp, by omega, h1, by omega, by omega, by omega, by omega, fun H7 t cc zz K7 ht0 hzz b1 b2 ht => ?_⟩
    have ec := chap_uniq hp h1 b1 b2 (show pcount (ls.take c) j < pcount (ls.take c) j + (sp + j - 1) / j by omega) (by omega)
    subst ec
    have ezz : z = zz := by rw [hz] at hzz; exact Option.some.inj hzz
    subst ezz
    have S7 := S6.same K7
    have hb7 := K7.sq hb6 id
    walk_at "hs"
    intro q3 hq3
    generalize hG_q3 : upd _ q3 _ = H7b
    have at_q3 := HS.upgs hG_q3
    have Kn_q3 := HS.upgK hG_q3 hq3
    clear hG_q3
    replace ht := Kn_q3 _ _ ht id
    walk_at "hs"
    refine ⟨.ref t, .ref q3, rfl, HS.smT3 ht at_q3 (by push_cast; rfl) ?_ ?_, fun H8 K8 => ?_⟩
    · rw [show pcount (ls.take cc) j + (sp + j - 1) / j - pcount (ls.take cc) j - 1 = (sp + j - 1) / j - 1 by omega]
      exact first_line h1 hsp'.1
    · rw [show pcount (ls.take cc) j + (sp + j - 1) / j - pcount (ls.take cc) j - 1 = (sp + j - 1) / j - 1 by omega]
      have := first_line h1 hsp'.1
      generalize ((sp + j - 1) / j - 1) * j = X at this ⊢
      simp only [Int.min_def]
      split <;> split <;> omega
    have S8 := (S7.same Kn_q3).same K8
    have hb8 := (Kn_q3.trans K8).sq hb7 id
    have K38 : HS.Keep (fun a => a = s ∨ a = d) H H8 := K34.trans ((K5.trans (K6.trans (K7.trans (Kn_q3.trans K8)))).any)
    walk_at "hs"
    refine ⟨z, j, rfl, h1, by omega, ?_⟩
    walk_at "hs"
    have cz : (z + j - 1) / j ≤ z := (ceil_le h1).mpr (by have := Int.mul_le_mul_of_nonneg_left h1 (show 0 ≤ z by omega); omega)
    have cz1 := ceil_pos hzB.1 h1
    refine ⟨s, d, _, _, rfl, S8, by omega, by omega, by omega, fun H9 nb K9 S9 n0 n1 => ?_⟩
    have hb9 := K9.sq hb8 (by walk_at "ns")
    have K39 := K38.trans K9
    have nj : 0 ≤ nb * j := Int.mul_nonneg n0 (by omega)
    have nz : nb * j + 1 ≤ z := by
      rcases Int.lt_or_le (nb * j) z with h | h
      · omega
      · have := (ceil_le (x := z) (q := nb) h1).mpr h
        omega
    have pg : (nb * j + 1 + j - 1) / j = nb + 1 := page_here h1 (by omega) (by omega)
    walk_at "hs"
    refine ⟨HS.mulW 200 200 n0 (by omega) (by omega) (by omega) (by decide) (by decide) (by decide), ?_⟩
    walk_at "hs"
    refine ⟨b, ls, j, (cc : Int) + 1, nb * j + 1, z, rfl, hb9, hp, by omega, h1, by omega, by omega, ez, by omega, nz, fun Ha Ka => ?_⟩
    rw [et, pg]
    have hba := Ka.sq hb9 id
    have Sa := S9.same Ka
    walk_at "hs"
    refine ⟨HS.mulW 200 200 n0 (by omega) (by omega) (by omega) (by decide) (by decide) (by decide), ?_⟩
    walk_at "hs"
    refine ⟨HS.mulW 200 200 (by omega) (by omega) (by omega) (by omega) (by decide) (by decide) (by decide), ?_⟩
    walk_at "hs"
    intro sh hsh
    generalize hG_sh : upd _ sh _ = Hb
    have at_sh := HS.upgs hG_sh
    have Kn_sh := HS.upgK hG_sh hsh
    clear hG_sh
    have hbb := Kn_sh.sq hba id
    have Sb := Sa.same Kn_sh
    have K3b := (K39.trans Ka.any).trans Kn_sh.any
    walk_at "hs"
    refine ⟨b, ls, j, _, rfl, hbb, hp, by omega, h1, by omega, by omega, by omega, by omega, fun Hc t2 c2' z2 Kc ht20 hz2 d1 d2 ht2 => ?_⟩
    have ec := chap_uniq hp h1 d1 d2 (show pcount (ls.take cc) j < pcount (ls.take cc) j + (nb + 1) by omega) (by omega)
    subst ec
    have ez2 : z = z2 := by rw [hz] at hz2; exact Option.some.inj hz2
    subst ez2
    have at_sh := Kc _ _ at_sh id
    walk_at "hs"
    intro l1 hl1
    generalize hG_l1 : upd _ l1 _ = Hd
    have at_l1 := HS.upgs hG_l1
    have Kn_l1 := HS.upgK hG_l1 hl1
    clear hG_l1
    replace at_sh := Kn_l1 _ _ at_sh id
    replace ht2 := Kn_l1 _ _ ht2 id
    walk_at "hs"
    intro l2 hl2
    generalize hG_l2 : upd _ l2 _ = He
    have at_l2 := HS.upgs hG_l2
    have Kn_l2 := HS.upgK hG_l2 hl2
    clear hG_l2
    replace at_sh := Kn_l2 _ _ at_sh id
    replace ht2 := Kn_l2 _ _ ht2 id
    replace at_l1 := Kn_l2 _ _ at_l1 id
    walk_at "hs"
    refine ⟨.ref l1, .ref l2, rfl, HS.sm2 at_l1 at_l2 (HS.smI (by omega)) (HS.smT3 ht2 at_sh (by push_cast; rfl) ?_ ?_), fun Hf Kf => ?_⟩
    · rw [show pcount (ls.take c2') j + (nb + 1) - pcount (ls.take c2') j - 1 = nb by omega]
    · rw [show pcount (ls.take c2') j + (nb + 1) - pcount (ls.take c2') j - 1 = nb by omega, Int.add_mul, Int.one_mul]
      simp only [Int.min_def]
      split <;> split <;> omega
    exact k _ (K3b.trans (Kc.trans (Kn_l1.trans (Kn_l2.trans Kf))).any) ((Sb.same (Kc.trans (Kn_l1.trans (Kn_l2.trans Kf)))).up (by omega))
def sp__law_read_right (K : PySem.W.Frag) : Sp := fun vs H Q _ => ∃ (s d : Addr) (n : Nat), vs = [.ref s] ∧ (Src H s d n ∧ n < 2 ^ 38 ∧ ∀ H', HS.Keep (fun a => a = s ∨ a = d) H H' → Src H' s d (n + 50) → Q (.bl true) H')
theorem ok__law_read_right (T : Txt K mg A) : FnOk P w K mg base CX0 5 A.a__law_read_right A.d__law_read_right ["source"] (sp__law_read_right K) := by
  have G__law_draw : FnOk P w K mg base CX0 1 A.a__law_draw A.d__law_draw ["source", "many"] (sp__law_draw K) := ok__law_draw T
  have G_read_book : FnOk P w K mg base (L2.CX P w) 3 A.a_read_book A.d_read_book ["text"] (sp_read_book K A) := ok_read_book T
  have G__law_wide : FnOk P w K mg base CX0 2 A.a__law_wide A.d__law_wide ["source", "lengths"] (sp__law_wide K) := ok__law_wide T
  have G__law_sheets : FnOk P w K mg base CX0 1 A.a__law_sheets A.d__law_sheets ["long", "wide"] (sp__law_sheets K) := ok__law_sheets T
  have G_page_of : FnOk P w K mg base CX0 3 A.a_page_of A.d_page_of ["book", "size", "chapter", "line"] (sp_page_of K) := ok_page_of T
  have G__law_same : FnOk P w K mg base CX0 4 A.a__law_same A.d__law_same ["found", "wanted"] (sp__law_same 3 K) := ok__law_same T 3
  have G_lines_on : FnOk P w K mg base CX0 3 A.a_lines_on A.d_lines_on ["book", "size", "page"] (sp_lines_on K) := ok_lines_on T
  refine T.F__law_read_right.ok sc__law_read_right (fun vs H Q E h => ?_) (fun cdv A0 outer s H vs Q E hr h => ?_)
  · obtain ⟨s, d, n, rfl, hw⟩ := h
    rfl
  · obtain ⟨s, d, n, rfl, hw⟩ := h
    refine ⟨_, (pss_cons (ps_par (i := 1) (j := 2) rfl sc__law_read_right.nd rfl rfl (by decide) rfl rfl (pa_cons (pe_op op_add pe_int (pe_call G__law_draw (hr.mono (by decide)) (by rfl) T.g__law_draw T.F__law_draw.kp T.b__law_draw .nil pass0 (pa_cons (pv 0) (pa_cons pe_int pa_nil)))) (pa_cons (pe_op op_add pe_int (pe_call G__law_draw (hr.mono (by decide)) (by rfl) T.g__law_draw T.F__law_draw.kp T.b__law_draw .nil pass0 (pa_cons (pv 0) (pa_cons (pe_ix (HS.ixl K) (pe_lst (pa_cons pe_int (pa_cons (HS.pe_fold (999999999999999999999999999991) (pe_op op_sub (pe_op op_pow pe_int pe_int) pe_int) (by intro σ H Q q; walk_at "fold")) pa_nil))) (pe_call G__law_draw (hr.mono (by decide)) (by rfl) T.g__law_draw T.F__law_draw.kp T.b__law_draw .nil pass0 (pa_cons (pv 0) (pa_cons pe_int pa_nil))) (fun _ _ => rfl)) pa_nil)))) pa_nil)) (by rfl))
    (pss_cons (ps_set (i := 3) sc__law_read_right.nd rfl (.inl rfl) (pe_call G_read_book (hr.mono (by decide)) (by rfl) T.g_read_book T.F_read_book.kp T.b_read_book .nil passL (pa_cons (pe_op op_add_str (pe_op op_add_str (pe_op op_add_str (pe_op op_add_str (pe_op op_add_str (pe_op op_add_str (pe_callTy call_str_int (by rfl) T.z_str (by decide +kernel) (pa_cons (pv 1) pa_nil)) pe_str) (pe_callTy call_str_int (by rfl) T.z_str (by decide +kernel) (pa_cons (pv 2) pa_nil))) pe_str) (pe_callTy call_str_int (by rfl) T.z_str (by decide +kernel) (pa_cons (pv 1) pa_nil))) pe_str) (pe_callTy call_str_int (by rfl) T.z_str (by decide +kernel) (pa_cons (pv 2) pa_nil))) pa_nil)))
    (pss_cons (ps_set (i := 4) sc__law_read_right.nd rfl (.inl rfl) (pe_call G__law_wide (hr.mono (by decide)) (by rfl) T.g__law_wide T.F__law_wide.kp T.b__law_wide .nil pass0 (pa_cons (pv 0) (pa_cons (pe_lst (pa_cons (pv 2) pa_nil)) pa_nil))))
    (pss_cons (ps_set (i := 5) sc__law_read_right.nd rfl (.inl rfl) (pe_call G__law_sheets (hr.mono (by decide)) (by rfl) T.g__law_sheets T.F__law_sheets.kp T.b__law_sheets .nil pass0 (pa_cons (pv 2) (pa_cons (pv 4) pa_nil))))
    (pss_cons (ps_for PassesOwn.never rfl (pi_range1 (by rfl) T.z_range (pa_cons pe_int pa_nil)) (pg_name (i := 6) sc__law_read_right.nd rfl (.inl rfl))
      (pss_cons (ps_par (i := 7) (j := 8) rfl sc__law_read_right.nd rfl rfl (by decide) rfl rfl (pa_cons (pe_call G__law_draw (hr.mono (by decide)) (by rfl) T.g__law_draw T.F__law_draw.kp T.b__law_draw .nil pass0 (pa_cons (pv 0) (pa_cons (pe_op op_add (pe_op op_mul pe_int (pv 1)) pe_int) pa_nil))) (pa_cons (pe_op op_add pe_int (pe_call G__law_draw (hr.mono (by decide)) (by rfl) T.g__law_draw T.F__law_draw.kp T.b__law_draw .nil pass0 (pa_cons (pv 0) (pa_cons (pv 2) pa_nil)))) pa_nil)) (by rfl))
    (pss_cons (ps_set (i := 8) sc__law_read_right.nd rfl (.inl rfl) (pe_ifExp (pt_cmpR op_eq (pv 7) (pv 1) (nomark _)) pe_int (pv 8)))
    (pss_cons (ps_set (i := 9) sc__law_read_right.nd rfl (.inl rfl) (pe_ifExp (pt_cmpR op_le (pv 7) (pv 1) (nomark _)) (pe_op op_mulW (pv 7) (pv 5)) (pe_op op_add (pe_op op_mulW (pe_op op_sub (pv 7) pe_int) (pv 5)) pe_int)))
    (pss_cons (ps_set (i := 10) sc__law_read_right.nd rfl (.inl rfl) (pe_call G_page_of (hr.mono (by decide)) (by rfl) T.g_page_of T.F_page_of.kp T.b_page_of .nil pass0 (pa_cons (pv 3) (pa_cons (pv 4) (pa_cons (pe_op op_add (pv 7) pe_int) (pa_cons (pv 8) pa_nil))))))
    (pss_cons (ps_if (pt_not (pt_val (pe_call G__law_same hr (by rfl) T.g__law_same T.F__law_same.kp T.b__law_same .nil pass0 (pa_cons (pv 10) (pa_cons (pe_op op_add (pv 9) (pe_call G__law_sheets (hr.mono (by decide)) (by rfl) T.g__law_sheets T.F__law_sheets.kp T.b__law_sheets .nil pass0 (pa_cons (pv 8) (pa_cons (pv 4) pa_nil)))) pa_nil)))))
      (pss_one (ps_ret pe_bl))
      pss_nil)
    (pss_cons (ps_set (i := 11) sc__law_read_right.nd rfl (.inl rfl) (pe_op op_sub (pv 8) (pe_op op_mod (pe_op op_sub (pv 8) pe_int) (pv 4))))
    (pss_one (ps_if (pt_not (pt_val (pe_call G__law_same hr (by rfl) T.g__law_same T.F__law_same.kp T.b__law_same .nil pass0 (pa_cons (pe_call G_lines_on (hr.mono (by decide)) (by rfl) T.g_lines_on T.F_lines_on.kp T.b_lines_on .nil pass0 (pa_cons (pv 3) (pa_cons (pv 4) (pa_cons (pv 10) pa_nil)))) (pa_cons (pe_tup (pa_cons (pe_op op_add (pv 7) pe_int) (pa_cons (pv 11) (pa_cons (pe_callB (call_min2 rfl) (by rfl) T.z_min (by decide +kernel) (pa_cons (pe_ix (HS.ixl K) (pv 3) (pv 7) (fun _ _ => rfl)) (pa_cons (pe_op op_sub (pe_op op_add (pv 11) (pv 4)) pe_int) pa_nil))) pa_nil)))) pa_nil)))))
      (pss_one (ps_ret pe_bl))
      pss_nil)))))))))
    (pss_one (ps_ret pe_bl))))))), ?_⟩
    obtain ⟨S0, hn, k⟩ := hw
    walk_at "hs"
    refine ⟨s, d, 497, n, rfl, S0, by decide, by decide, by omega, fun H1 u K1 S1 u0 u1 => ?_⟩
    walk_at "hs"
    intro p1 hp1
    have e1 := S1.ne1 hp1
    have e2 := S1.ne2 hp1
    walk_at "hs"
    refine ⟨s, d, 2, _, rfl, S1.new hp1, by decide, by decide, by omega, fun H2 v K2 S2 v0 v1 => ?_⟩
    refine HS.ixI [30, 999999999999999999999999999991] (K2.sq (HS.sq upd_same) (by walk_at "ns")) v0 v1 fun wd _ hwd' => ?_
    have hwd : 30 ≤ wd ∧ wd ≤ 999999999999999999999999999991 := by simp only [List.mem_cons, List.not_mem_nil, or_false] at hwd'; omega
    have K02 : HS.Keep (fun a => a = s ∨ a = d) H H2 := K1.trans (HS.Keep.trans (HS.Keep.new hp1) K2)
    walk_at "hs"
    refine ⟨s, d, wd, _, rfl, S2, by omega, by omega, by omega, fun H3 e K3 S3 e0 e1' => ?_⟩
    have K03 := K02.trans K3
    obtain ⟨m, hm⟩ : ∃ m : Nat, 2 + u = m := ⟨(2 + u).toNat, by omega⟩
    have hm2 : 2 ≤ m := by omega
    have hm3 : m ≤ 498 := by omega
    obtain ⟨z, hz⟩ : ∃ z, 2 + e = z := ⟨_, rfl⟩
    have hz2 : 2 ≤ z ∧ z < 10 ^ 30 := by omega
    have lm := numS_len (z := (m : Int)) (by omega) (by omega)
    have lz := numS_len (z := z) (by omega) (by omega)
    have lt := mid_len
    have lx := x_len
    have lB : ∀ x ∈ lots m z, 1 ≤ x ∧ x < 10 ^ 30 := fun x hx => by
      unfold lots at hx
      rcases List.mem_append.mp hx with h | h
      · have := (List.mem_replicate.mp h).2; omega
      · rcases List.mem_cons.mp h with h | h
        · omega
        · have := (List.mem_replicate.mp h).2; omega
    have lp : ∀ x ∈ lots m z, 1 ≤ x := fun x hx => (lB x hx).1
    have lne : lots m z ≠ [] := by unfold lots; simp
    have ll := lots_len m z
    have lR : readR (textOf (lots m z)) = some (lots m z) := readR_text (fun x hx => by have := lB x hx; omega) (by omega)
    walk_at "hs"
    rw [hm, hz]
    refine ⟨HS.lg (by omega), ?_⟩
    walk_at "hs"
    refine ⟨numS m, _, rfl, rfl, by rw [lx]; exact HS.szl (by omega), ?_⟩
    walk_at "hs"
    refine ⟨HS.lg (by omega), ?_⟩
    refine ⟨_, numS z, rfl, rfl, by rw [lenA, lx]; exact HS.szl (by omega), ?_⟩
    walk_at "hs"
    refine ⟨_, _, rfl, rfl, by rw [lenA, lenA, lx, lt]; exact HS.szl (by omega), ?_⟩
    walk_at "hs"
    refine ⟨HS.lg (by omega), ?_⟩
    refine ⟨_, numS m, rfl, rfl, by rw [lenA, lenA, lenA, lx, lt]; exact HS.szl (by omega), ?_⟩
    walk_at "hs"
    refine ⟨_, _, rfl, rfl, by rw [lenA, lenA, lenA, lenA, lx, lt]; exact HS.szl (by omega), ?_⟩
    walk_at "hs"
    refine ⟨HS.lg (by omega), ?_⟩
    refine ⟨_, numS z, rfl, rfl, by rw [lenA, lenA, lenA, lenA, lenA, lx, lt]; exact HS.szl (by omega), ?_⟩
    walk_at "hs"
    refine ⟨textOf (lots m z), by rw [lots_text hm2 hz2.1], by rw [lots_text hm2 hz2.1]; rw [lenA, lenA, lenA, lenA, lenA, lenA, lx, lt]; omega, fun ps hps => ?_, fun (h : readR (textOf (lots m z)) = none) => absurd (h.symm.trans lR) (by simp), fun ls hls H4 b K4 hb0 hb => ?_⟩
    · rw [goR_text lne (fun x hx => by have := lB x hx; omega) (by omega)] at hps
      have ep := Option.some.inj hps
      subst ep
      constructor
      · obtain ⟨x, r, exr⟩ : ∃ x r, lots m z = x :: r := by
          cases h : lots m z with
          | nil => exact absurd h lne
          | cons x r => exact ⟨x, r, rfl⟩
        rw [exr, runs_spread, ← exr]
        show (lots m z).length ≤ _
        omega
      · intro p hp
        have := (runs_mem hp).2.1
        omega
    rw [lR] at hls
    have el := Option.some.inj hls
    subst el
    have b1 : b ≠ s := S3.ne1 hb0
    have b2 : b ≠ d := S3.ne2 hb0
    have S4 := S3.same K4
    have K04 := K03.trans K4.any
    walk_at "hs"
    intro q hq
    have q1 := S4.ne1 hq
    have q2 := S4.ne2 hq
    have hbq := HS.Keep.new (S := fun _ => False) (o := .lst [.int z]) hq _ _ hb id
    walk_at "hs"
    refine ⟨s, d, q, [z], _, rfl, S4.new hq, HS.sq upd_same, q1, q2, show 1 ≤ 1000 by decide, fun x hx => by rw [List.mem_singleton.mp hx]; omega, by omega, fun H5 j K5 S5 j0 j1 => ?_⟩
    have hb5 := K5 _ _ hbq (by walk_at "ns")
    have K05 : HS.Keep (fun a => a = s ∨ a = d) H H5 := K04.trans (HS.Keep.trans (HS.Keep.new hq) K5)
    walk_at "hs"
    refine ⟨z, j, rfl, j0, by omega, ?_⟩
    have c1 := ceil_pos (show 1 ≤ z by omega) j0
    have cz : (z + j - 1) / j ≤ z := (ceil_le j0).mpr (by have := Int.mul_le_mul_of_nonneg_left j0 (show 0 ≤ z by omega); omega)
    walk_at "hs"
    refine ⟨by decide, by decide, for_range (n := 4) (fun t σ H' => HS.Keep (fun a => a = s ∨ a = d) H H' ∧ Src H' s d (n + 10 + 2 * t) ∧ H' b = some (.lst ((lots m z).map V.int)) ∧ ∃ x6 x7 x8 x9 x10 x11, σ = [some (.ref s), some (.int m), some (.int z), some (.ref b), some (.int j), some (.int ((z + j - 1) / j)), x6, x7, x8, x9, x10, x11]) ⟨K05, S5.up (by omega), hb5, _, _, _, _, _, _, rfl⟩ ?_ ?_⟩
    · rintro t σ H6 ht ⟨K6, S6, hb6, x6, x7, x8, x9, x10, x11, rfl⟩
      walk_at "hs"
      refine ⟨s, d, _, _, rfl, S6, by omega, by omega, by omega, fun H7 at0 K7 S7 a0 a1 => ?_⟩
      obtain ⟨c, rfl⟩ := Int.eq_ofNat_of_zero_le a0
      have hc : c < 2 * m + 1 := by omega
      walk_at "hs"
      refine ⟨s, d, z, _, rfl, S7, by omega, by omega, by omega, fun H8 g K8 S8 g0 g1 => ?_⟩
      have hb8 := K8 _ _ (K7 _ _ hb6 (by walk_at "ns")) (by walk_at "ns")
      have K68 := K6.trans (K7.trans K8)
      have hat := lots_at (x := z) hc
      have htk := lots_take (x := z) (j := j) j0 (Nat.le_of_lt hc)
      have ets : ∃ w, (lots m z)[c]? = some w ∧ 1 ≤ w ∧ (w = if c = m then 1 else z) := ⟨_, hat, by split <;> omega, rfl⟩
      obtain ⟨w, hw0, hw1, hw2⟩ := ets
      walk_at "hs"
      refine HS.iteM (fun v H' => H8 = H' ∧ ∃ sp, v = .int sp ∧ 1 ≤ sp ∧ sp ≤ w) (fun hcm Q' k' => ?_) (fun hcm Q' k' => ?_) ?_
      · have := of_decide_eq_true hcm
        walk_at "hs"
        exact k' _ _ ⟨rfl, 1, rfl, by decide, hw1⟩
      · have := of_decide_eq_false hcm
        walk_at "hs"
        exact k' _ _ ⟨rfl, _, rfl, by omega, by rw [hw2, if_neg (by omega)]; omega⟩
      rintro v H' ⟨rfl, sp, rfl, sp1, sp2⟩
      walk_at "hs"
      have wz : w ≤ z := by rw [hw2]; split <;> omega
      have cw : (sp + j - 1) / j ≤ (w + j - 1) / j := Int.ediv_le_ediv (by omega) (by omega)
      have cs1 := ceil_pos sp1 j0
      have hP : 0 ≤ pcount ((lots m z).take c) j := pcount_pos (take_all lp c) j0
      have hPb := pcount_take_le lp j0 (show c ≤ (lots m z).length by omega)
      have hP2 := pcount_take_le lp j0 (show c + 1 ≤ (lots m z).length by omega)
      rw [List.take_length] at hPb hP2
      have sb := sum_book (ls := lots m z) fun x hx => lB x hx
      have psum := pcount_sum lp sb.1 j0
      have ptk := pcount_take j hw0
      refine HS.iteM (fun v H' => H8 = H' ∧ v = .int (pcount ((lots m z).take c) j)) (fun hcm Q' k' => ?_) (fun hcm Q' k' => ?_) ?_
      · have hle := of_decide_eq_true hcm
        walk_at "hs"
        refine ⟨HS.mulW 200 200 (by omega) (by omega) (by omega) (by omega) (by decide) (by decide) (by decide), ?_⟩
        exact k' _ _ ⟨rfl, by rw [htk, if_pos (by omega)]⟩
      · have hle := of_decide_eq_false hcm
        walk_at "hs"
        refine ⟨HS.mulW 200 200 (by omega) (by omega) (by omega) (by omega) (by decide) (by decide) (by decide), ?_⟩
        walk_at "hs"
        exact k' _ _ ⟨rfl, by rw [htk, if_neg (by omega)]⟩
      rintro v H' ⟨rfl, rfl⟩
      have et : ((c : Int) + 1 - 1).toNat = c := by omega
      walk_at "hs"
      refine ⟨b, lots m z, j, (c : Int) + 1, sp, w, rfl, HS.sq hb8, lp, by omega, j0, by omega, by omega, by rw [et]; exact hw0, sp1, sp2, fun H9 K9 => ?_⟩
      rw [et]
      have hb9 := K9 _ _ hb8 id
      walk_at "hs"
      refine ⟨sp, j, rfl, j0, by omega, ?_⟩
      walk_at "hs"
      refine ⟨.int _, .int _, rfl, .int _, fun Ha Ka => ?_⟩
      have hba := Ka _ _ hb9 id
      walk_at "hs"
      refine ⟨b, lots m z, j, _, rfl, HS.sq hba, lp, by omega, j0, by omega, by omega, by omega, by omega, fun Hb t1 cc zz Kb ht0 hzz b1' b2' ht1 => ?_⟩
      have ec := chap_uniq lp j0 b1' b2' (show pcount ((lots m z).take c) j < pcount ((lots m z).take c) j + (sp + j - 1) / j by omega) (by omega)
      subst ec
      have ezz : w = zz := by rw [hw0] at hzz; exact Option.some.inj hzz
      subst ezz
      have hbb := Kb _ _ hba id
      walk_at "hs"
      refine HS.ixZ (HS.sq hbb) (by omega) (by rw [show ((cc : Int)).toNat = cc by omega]; exact hw0) ?_
      walk_at "hs"
      intro q3 hq3
      generalize hG_q3 : upd _ q3 _ = Hc
      have at_q3 := HS.upgs hG_q3
      have Kn_q3 := HS.upgK hG_q3 hq3
      clear hG_q3
      replace ht1 := Kn_q3 _ _ ht1 id
      replace hbb := Kn_q3 _ _ hbb id
      walk_at "hs"
      refine ⟨.ref t1, .ref q3, rfl, HS.smT3 ht1 at_q3 (by push_cast; rfl) ?_ ?_, fun Hd Kd => ?_⟩
      · rw [show pcount ((lots m z).take cc) j + (sp + j - 1) / j - pcount ((lots m z).take cc) j - 1 = (sp + j - 1) / j - 1 by omega]
        exact first_line j0 sp1
      · rw [show pcount ((lots m z).take cc) j + (sp + j - 1) / j - pcount ((lots m z).take cc) j - 1 = (sp + j - 1) / j - 1 by omega]
        have := first_line j0 sp1
        generalize ((sp + j - 1) / j - 1) * j = X at this ⊢
        simp only [Int.min_def]
        split <;> split <;> omega
      have K8d := K9.trans (Ka.trans (Kb.trans (Kn_q3.trans Kd)))
      walk_at "hs"
      exact ⟨K68.trans K8d.any, (S8.same K8d).up (by omega), K8d _ _ hb8 id, _, _, _, _, _, _, rfl⟩
    · rintro σ H6 ⟨K6, S6, hb6, x6, x7, x8, x9, x10, x11, rfl⟩
      walk_at "hs"
      exact k _ K6 (S6.up (by omega))
def sp_law (K : PySem.W.Frag) : Sp := fun vs H Q _ => ∃ (a : Addr) (ns : List Int), vs = [.ref a] ∧ (SqL K H a (ns.map V.int) ∧ ns.length ≤ 63 ∧ ∀ H', Q (.bl true) H')
theorem ok_law (T : Txt K mg A) : HS.FnG P w K mg base CX0 6 A.a_law A.d_law ["script"] (sp_law K) := by
  have G__law_source : FnOk P w K mg base CX0 1 A.a__law_source A.d__law_source ["script"] (sp__law_source K) := ok__law_source T
  have G__law_lengths : FnOk P w K mg base CX0 2 A.a__law_lengths A.d__law_lengths ["source", "many"] (sp__law_lengths K) := ok__law_lengths T
  have G__law_great_right : FnOk P w K mg base CX0 5 A.a__law_great_right A.d__law_great_right ["source", "lengths", "wide"] (sp__law_great_right K) := ok__law_great_right T
  have G__law_wide : FnOk P w K mg base CX0 2 A.a__law_wide A.d__law_wide ["source", "lengths"] (sp__law_wide K) := ok__law_wide T
  have G__law_draw : FnOk P w K mg base CX0 1 A.a__law_draw A.d__law_draw ["source", "many"] (sp__law_draw K) := ok__law_draw T
  have G__law_small_right : FnOk P w K mg base CX0 5 A.a__law_small_right A.d__law_small_right ["lengths", "wide"] (sp__law_small_right K) := ok__law_small_right T
  have G__law_read_right : FnOk P w K mg base CX0 5 A.a__law_read_right A.d__law_read_right ["source"] (sp__law_read_right K) := ok__law_read_right T
  have G_lines_on : FnOk P w K mg base CX0 3 A.a_lines_on A.d_lines_on ["book", "size", "page"] (sp_lines_on K) := ok_lines_on T
  have G_page_of : FnOk P w K mg base CX0 3 A.a_page_of A.d_page_of ["book", "size", "chapter", "line"] (sp_page_of K) := ok_page_of T
  refine HS.Fun.okG T.F_law sc_law (fun vs H Q E h => ?_) (fun cdv A0 outer s H vs Q E hg hr h => ?_)
  · obtain ⟨a, ns, rfl, hw⟩ := h
    rfl
  · obtain ⟨a, ns, rfl, hw⟩ := h
    refine ⟨_, (pss_cons (ps_set (i := 1) sc_law.nd rfl (.inr rfl) (pe_call G__law_source (hr.mono (by decide)) (by rfl) T.g__law_source T.F__law_source.kp T.b__law_source .nil pass0 (pa_cons (pv 0) pa_nil)))
    (pss_cons (ps_for PassesOwn.never rfl (pi_range1 (by rfl) T.z_range (pa_cons (pe_op op_add pe_int (pe_callB (call_min2 rfl) (by rfl) T.z_min (by decide +kernel) (pa_cons pe_int (pa_cons (pe_callB (HS.klen K) (by rfl) T.z_len PySem.boot_len (pa_cons (pv 0) pa_nil)) pa_nil)))) pa_nil)) (pg_name (i := 2) sc_law.nd rfl (.inl rfl))
      (pss_cons (ps_set (i := 3) sc_law.nd rfl (.inl rfl) (pe_call G__law_lengths (hr.mono (by decide)) (by rfl) T.g__law_lengths T.F__law_lengths.kp T.b__law_lengths .nil pass0 (pa_cons (pv 1) (pa_cons pe_int pa_nil))))
    (pss_cons (ps_set (i := 4) sc_law.nd rfl (.inl rfl) (pe_callB (HS.krepr K hg hr) (by rfl) T.z_repr (by decide +kernel) (pa_cons (pv 3) pa_nil)))
    (pss_cons (ps_for PassesOwn.never rfl (pi_range1 (by rfl) T.z_range (pa_cons (pe_op op_mul pe_int (pe_callTy call_int1 (by rfl) T.z_int (by decide +kernel) (pa_cons (pe_cmpR (HS.kne K (hu64 hr)) (pv 3) (pe_lst pa_nil) (nomark _)) pa_nil))) pa_nil)) (pg_name (i := 5) sc_law.nd rfl (.inl rfl))
      (pss_one (ps_if (pt_not (pt_val (pe_call G__law_great_right hr (by rfl) T.g__law_great_right T.F__law_great_right.kp T.b__law_great_right .nil pass0 (pa_cons (pv 1) (pa_cons (pv 3) (pa_cons (pe_call G__law_wide (hr.mono (by decide)) (by rfl) T.g__law_wide T.F__law_wide.kp T.b__law_wide .nil pass0 (pa_cons (pv 1) (pa_cons (pv 3) pa_nil))) pa_nil))))))
      (pss_one (ps_ret pe_bl))
      pss_nil)))
    (pss_cons (ps_setLc (i := 6) (own := [("part", 8)]) (g := gName 8) (tt := tYes) rfl sc_law.nd rfl rfl (sw_true rfl rfl rfl (by decide +kernel)) (pi_range1 (by rfl) T.z_range (pa_cons (pe_call G__law_draw (hr.mono (by decide)) (by rfl) T.g__law_draw T.F__law_draw.kp T.b__law_draw .nil pass0 (pa_cons (pv 1) (pa_cons pe_int pa_nil))) pa_nil)) (blkOk_by (own := [("part", 8)]) (N := N_law) (sc := defScope s_law) (by decide +kernel)) (fun _ _ _ _ _ => pg_name (i := 8) sc_law.nd rfl (by first | exact .inl rfl | exact .inr rfl)) (fun _ _ _ _ _ => pts_nil) (fun _ _ _ _ _ => (pe_op op_add pe_int (pe_call G__law_draw (hr.mono (by decide)) (by rfl) T.g__law_draw T.F__law_draw.kp T.b__law_draw .nil pass0 (pa_cons (pv 1) (pa_cons pe_int pa_nil))))))
    (pss_cons (ps_for PassesOwn.never rfl (HS.kil K (pi_list (pe_lst (pa_cons pe_int (pa_cons (pe_op op_add pe_int (pe_call G__law_draw (hr.mono (by decide)) (by rfl) T.g__law_draw T.F__law_draw.kp T.b__law_draw .nil pass0 (pa_cons (pv 1) (pa_cons pe_int pa_nil)))) (pa_cons (pe_op op_add pe_int (pe_call G__law_draw (hr.mono (by decide)) (by rfl) T.g__law_draw T.F__law_draw.kp T.b__law_draw .nil pass0 (pa_cons (pv 1) (pa_cons pe_int pa_nil)))) pa_nil)))))) (pg_name (i := 7) sc_law.nd rfl (.inl rfl))
      (pss_one (ps_if (pt_not (pt_val (pe_call G__law_small_right hr (by rfl) T.g__law_small_right T.F__law_small_right.kp T.b__law_small_right .nil pass0 (pa_cons (pv 6) (pa_cons (pv 7) pa_nil)))))
      (pss_one (ps_ret pe_bl))
      pss_nil)))
    (pss_one (ps_if (PW.pt (pw_or (pt_cmpR op_ne (pe_callB (HS.krepr K hg hr) (by rfl) T.z_repr (by decide +kernel) (pa_cons (pv 3) pa_nil)) (pv 4) (nomark _)) (pw_or1 (pt_not (pt_val (pe_call G__law_read_right hr (by rfl) T.g__law_read_right T.F__law_read_right.kp T.b__law_read_right .nil pass0 (pa_cons (pv 1) pa_nil)))))))
      (pss_one (ps_ret pe_bl))
      pss_nil))))))))
    (pss_one (ps_ret (pe_and (pe_cmpR op_eq (pe_call G_page_of (hr.mono (by decide)) (by rfl) T.g_page_of T.F_page_of.kp T.b_page_of .nil pass0 (pa_cons (pe_lst (pa_cons pe_int (pa_cons pe_int (pa_cons pe_int pa_nil)))) (pa_cons pe_int (pa_cons pe_int (pa_cons pe_int pa_nil))))) pe_int (nomark _)) (pe_one (pe_cmpR (HS.keq K (hu64 hr)) (pe_call G_lines_on (hr.mono (by decide)) (by rfl) T.g_lines_on T.F_lines_on.kp T.b_lines_on .nil pass0 (pa_cons (pe_lst (pa_cons pe_int (pa_cons pe_int (pa_cons pe_int pa_nil)))) (pa_cons pe_int (pa_cons pe_int pa_nil)))) (pe_tup (pa_cons pe_int (pa_cons pe_int (pa_cons pe_int pa_nil)))) (nomark _)))))))), ?_⟩
    obtain ⟨hS, hl, k⟩ := hw
    walk_at "hs"
    refine ⟨a, ns, rfl, hS, hl, fun H1 s d K1 hs hd S1 => ?_⟩
    have hS1 := K1.sq hS id
    walk_at "hs"
    rw [List.length_map]
    refine ⟨by split <;> omega, by split <;> omega, for_range (n := _) (fun i σ H' => Src H' s d (500 * i) ∧ ∃ x2 x3 x4 x5 x6 x7 x8, σ = [some (.ref a), some (.ref s), x2, x3, x4, x5, x6, x7, x8]) ⟨S1, _, _, _, _, _, _, _, rfl⟩ ?_ ?_⟩
    · rintro i σ H2 hi ⟨S2, x2, x3, x4, x5, x6, x7, x8, rfl⟩
      have hi' : i < 11 := by split at hi <;> omega
      walk_at "hs"
      refine ⟨s, d, 40, _, rfl, S2, by decide, by decide, by omega, fun H3 b ls K3 hb0 hb hbl hB S3 => ?_⟩
      have b1 : b ≠ s := S2.ne1 hb0
      have b2 : b ≠ d := S2.ne2 hb0
      have S3 := S3.up (show _ ≤ 500 * i + 100 by omega)
      have tm : HS.Tm ls := ⟨fun x hx => by have := hB x hx; omega, by omega⟩
      walk_at "hs"
      refine HS.repI (HS.sq hb) tm ?_
      walk_at "hs"
      intro e0 he0
      have hb3 := HS.Keep.new (S := fun _ => False) (o := .lst []) he0 _ _ hb id
      have S4 := S3.new (o := .lst []) he0
      refine HS.neL (ys := []) (HS.sq hb3) (HS.sq upd_same) ?_
      generalize upd H3 e0 (.lst []) = H4 at hb3 S4 ⊢
      refine .inr ⟨_, rfl, ?_⟩
      walk_at "hs"
      obtain ⟨bb, hbb, hbb2⟩ : ∃ bb : Int, (if (!decide (ls = [])) = true then (1 : Int) else 0) = bb ∧ (bb = 0 ∨ (bb = 1 ∧ 0 < ls.length)) := by
        refine ⟨_, rfl, ?_⟩
        by_cases e : ls = []
        · left; rw [if_neg (by simp [e])]
        · right
          exact ⟨by rw [if_pos (by simp [e])], List.length_pos_iff.mpr e⟩
      rw [hbb]
      refine ⟨by omega, by omega, for_range (n := (6 * bb).toNat) (fun t σ H' => Src H' s d (500 * i + 100 + 11 * t) ∧ H' b = some (.lst (ls.map V.int)) ∧ ∃ x5 x6 x7 x8, σ = [some (.ref a), some (.ref s), some (.int (0 + (i : Int))), some (.ref b), some (.str (HS.dInts ls).shown), x5, x6, x7, x8]) ⟨S4, hb3, _, _, _, _, rfl⟩ ?_ ?_⟩
      · rintro t σ H5 ht ⟨S5, hb5, x5, x6, x7, x8, rfl⟩
        have lp : 0 < ls.length := by omega
        walk_at "hs"
        refine ⟨s, d, b, ls, _, rfl, S5, HS.sq hb5, b1, b2, by omega, hB, by omega, fun H6 j K6 S6 j0 j1 => ?_⟩
        have hb6 := K6 _ _ hb5 (by walk_at "ns")
        walk_at "hs"
        refine ⟨s, d, b, ls, j, _, rfl, S6, HS.sq hb6, b1, b2, lp, by omega, hB, j0, by omega, by omega, fun H7 K7 S7 => ?_⟩
        walk_at "hs"
        exact ⟨S7.up (by omega), K7 _ _ hb6 (by walk_at "ns"), _, _, _, _, rfl⟩
      · rintro σ H5 ⟨S5, hb5, x5, x6, x7, x8, rfl⟩
        have S5 := S5.up (show _ ≤ 500 * i + 200 by omega)
        walk_at "hs"
        refine ⟨s, d, 6, _, rfl, S5, by decide, by decide, by omega, fun H6 u K6 S6 u0 u1 => ?_⟩
        have hb6 := K6 _ _ hb5 (by walk_at "ns")
        walk_at "hs"
        refine ⟨by omega, by omega, fun D hD => ?_⟩
        have d1 := S6.ne1 hD
        have d2 := S6.ne2 hD
        have bD : b ≠ D := ne_of_none hb6 hD
        refine lc_range (lo := 0) (n := u.toNat) (fun t H' => Src H' s d (500 * i + 201 + t) ∧ H' b = some (.lst (ls.map V.int)) ∧ ∃ fs : List Int, H' D = some (.lst (fs.map V.int)) ∧ fs.length = t ∧ ∀ x ∈ fs, 1 ≤ x ∧ x ≤ 9) ⟨S6.new hD, by rw [upd_ne bD]; exact hb6, [], upd_same, rfl, fun x hx => absurd hx List.not_mem_nil⟩ ?_ ?_
        · rintro t H7 ht ⟨S7, hb7, fs, hD7, hfl, hf⟩
          walk_at "hs"
          refine ⟨s, d, 9, _, rfl, S7, by decide, by decide, by omega, fun H8 v K8 S8 v0 v1 => ?_⟩
          have hD8 := K8 _ _ hD7 (by walk_at "ns")
          have hb8 := K8 _ _ hb7 (by walk_at "ns")
          walk_at "hs"
          refine ⟨_, hD8, HS.sz (by rw [List.length_map]; omega), (S8.put d1 d2).up (by omega), by rw [upd_ne bD]; exact hb8, fs ++ [1 + v], by rw [upd_same, List.map_append]; rfl, by rw [List.length_append, hfl]; rfl, fun x hx => ?_⟩
          rcases List.mem_append.mp hx with hx | hx
          · exact hf x hx
          · rw [List.mem_singleton] at hx; omega
        · rintro H7 ⟨S7, hb7, fs, hD7, hfl, hf⟩
          have S7 := S7.up (show _ ≤ 500 * i + 210 by omega)
          walk_at "hs"
          refine ⟨s, d, 4, _, rfl, S7, by decide, by decide, by omega, fun H8 v K8 S8 v0 v1 => ?_⟩
          have hD8 := K8 _ _ hD7 (by walk_at "ns")
          have hb8 := K8 _ _ hb7 (by walk_at "ns")
          walk_at "hs"
          refine ⟨s, d, 12, _, rfl, S8, by decide, by decide, by omega, fun H9 w K9 S9 w0 w1 => ?_⟩
          have hD9 := K9 _ _ hD8 (by walk_at "ns")
          have hb9 := K9 _ _ hb8 (by walk_at "ns")
          walk_at "hs"
          intro W hW
          generalize hG_W : upd _ W _ = Ha
          have at_W := HS.upgs hG_W
          have Kn_W := HS.upgK hG_W hW
          clear hG_W
          replace hD9 := Kn_W _ _ hD9 id
          replace hb9 := Kn_W _ _ hb9 id
          have Sa := S9.same Kn_W
          walk_at "hs"
          refine ⟨⟨_, HS.sq at_W⟩, for_list (xs := [.int 1, .int (1 + v), .int (1 + w)]) (fun t σ H' => HS.Keep (fun _ => False) Ha H' ∧ ∃ x5 x7 x8, σ = [some (.ref a), some (.ref s), some (.int (0 + (i : Int))), some (.ref b), some (.str (HS.dInts ls).shown), x5, some (.ref D), x7, x8]) ⟨.refl, _, _, _, rfl⟩ (fun t σ H' _ ⟨K', _⟩ => HS.sq (K' _ _ at_W id)) ?_ ?_⟩
          · rintro t x σ Hb ht ⟨Kb, x5, x7, x8, rfl⟩
            obtain ⟨j, rfl, hj⟩ : ∃ j, x = .int j ∧ 1 ≤ j ∧ j ≤ 12 := by
              match t, ht with
              | 0, ht => cases ht; exact ⟨_, rfl, by decide, by decide⟩
              | 1, ht => cases ht; exact ⟨_, rfl, by omega, by omega⟩
              | 2, ht => cases ht; exact ⟨_, rfl, by omega, by omega⟩
              | _ + 3, ht => cases ht
            walk_at "hs"
            refine ⟨D, fs, j, rfl, HS.sq (Kb _ _ hD9 id), by omega, fun x hx => by have := hf x hx; omega, hj.1, by omega, fun Hc Kc => ?_⟩
            walk_at "hs"
            exact ⟨Kb.trans Kc, _, _, _, rfl⟩
          · rintro σ Hb ⟨Kb, x5, x7, x8, rfl⟩
            walk_at "hs"
            refine HS.repI (HS.sq (Kb _ _ hb9 id)) tm ?_
            walk_at "hs"
            refine HS.neSS ?_
            walk_at "hs"
            refine ⟨s, d, _, rfl, Sa.same Kb, by omega, fun Hc Kc Sc => ?_⟩
            walk_at "hs"
            exact ⟨Sc.up (by omega), _, _, _, _, _, _, _, rfl⟩
    · rintro σ H2 ⟨S2, x2, x3, x4, x5, x6, x7, x8, rfl⟩
      walk_at "hs"
      intro p1 hp1
      generalize hG_p1 : upd _ p1 _ = H3
      have at_p1 := HS.upgs hG_p1
      have Kn_p1 := HS.upgK hG_p1 hp1
      clear hG_p1
      have lp : ∀ x ∈ [(5 : Int), 3, 3], 1 ≤ x := fun x h => by simp only [List.mem_cons, List.not_mem_nil, or_false] at h; omega
      walk_at "hs"
      refine ⟨p1, [5, 3, 3], 2, 2, 3, 3, rfl, HS.sq at_p1, lp, by decide, by decide, by decide, by decide, rfl, by decide, by decide, fun H4 K4 => ?_⟩
      walk_at "hs"
      refine HS.it1 (by decide) ?_
      walk_at "hs"
      intro p2 hp2
      generalize hG_p2 : upd _ p2 _ = H5
      have at_p2 := HS.upgs hG_p2
      have Kn_p2 := HS.upgK hG_p2 hp2
      clear hG_p2
      walk_at "hs"
      refine ⟨p2, [5, 3, 3], 2, 3, rfl, HS.sq at_p2, lp, by decide, by decide, by decide, by decide, by decide, by decide, fun H6 t c z K6 ht0 hz c1 c2 ht => ?_⟩
      have ec : c = 0 := chap_uniq lp (by decide) c1 c2 (by decide) (by decide)
      subst ec
      have ez : z = 5 := (Option.some.inj hz).symm
      subst ez
      walk_at "hs"
      intro p3 hp3
      generalize hG_p3 : upd _ p3 _ = H7
      have at_p3 := HS.upgs hG_p3
      have Kn_p3 := HS.upgK hG_p3 hp3
      clear hG_p3
      replace ht := Kn_p3 _ _ ht id
      refine HS.eqT (xs := [1, 5, 5]) (ys := [1, 5, 5]) (HS.st ht) (HS.st at_p3) ?_
      exact k _
end
theorem all_mk {l : PySem.W.OpenLaw} {w : World} {K : PySem.W.Frag} {h : Heap} {mg : Str → Option Value} {fa f0 f1 f2 f3 f4 f5 f6 f7 f8 f9 f10 f11 f12 f13 f14 f15 f16 f17 f18 f19 f20 f21 f22 f23 c_Unreadable : Addr} (X : K.In h) (G : h.Ns mainGlobals mg) (hfa : mg "law" = some (.ref fa))
    {od0 an0 od1 an1 od2 an2 od3 an3 od4 an4 od5 an5 od6 an6 od7 an7 od8 an8 od9 an9 od10 an10 od11 an11 od12 an12 od13 an13 od14 an14 od15 an15 od16 an16 od17 an17 od18 an18 od19 an19 od20 an20 od21 an21 od22 an22 od23 an23 : Option Addr} {sl0 sl1 sl2 sl3 sl4 sl5 sl6 sl7 sl8 sl9 sl10 sl11 sl12 sl13 sl14 sl15 sl16 sl17 sl18 sl19 sl20 sl21 sl22 sl23 : Array (Option Value)} {oc0 kV0 dc0 pm0 cd0 ct0 oc1 kV1 dc1 pm1 cd1 ct1 oc2 kV2 dc2 pm2 cd2 ct2 oc3 kV3 dc3 pm3 cd3 ct3 oc4 kV4 dc4 pm4 cd4 ct4 oc5 kV5 dc5 pm5 cd5 ct5 oc6 kV6 dc6 pm6 cd6 ct6 oc7 kV7 dc7 pm7 cd7 ct7 oc8 kV8 dc8 pm8 cd8 ct8 oc9 kV9 dc9 pm9 cd9 ct9 oc10 kV10 dc10 pm10 cd10 ct10 oc11 kV11 dc11 pm11 cd11 ct11 oc12 kV12 dc12 pm12 cd12 ct12 oc13 kV13 dc13 pm13 cd13 ct13 oc14 kV14 dc14 pm14 cd14 ct14 oc15 kV15 dc15 pm15 cd15 ct15 oc16 kV16 dc16 pm16 cd16 ct16 oc17 kV17 dc17 pm17 cd17 ct17 oc18 kV18 dc18 pm18 cd18 ct18 oc19 kV19 dc19 pm19 cd19 ct19 oc20 kV20 dc20 pm20 cd20 ct20 oc21 kV21 dc21 pm21 cd21 ct21 oc22 kV22 dc22 pm22 cd22 ct22 oc23 kV23 dc23 pm23 cd23 ct23 : Value}
    (m_Unreadable : PySem.W.nsIn K mainGlobals "Unreadable" = some (some (.ref c_Unreadable)))
    (a0 : PySem.W.nsIn K mainGlobals "_law_source" = some (some (.ref f0)))
    (l0 : K.lookup f0 = some ⟨oc0, od0, .func (PySem.W.fnOf "_law_source" "_law_source" (defArgs s__law_source) (defBody s__law_source) (defScope s__law_source) .none kV0 dc0 pm0 an0 cd0 ct0), sl0⟩) (c0 : PySem.W.codeIn K cd0 "_law_source" = true) (k0 : PySem.W.keepIn K (.ref f0) = true)
    (a1 : PySem.W.nsIn K mainGlobals "_law_draw" = some (some (.ref f1)))
    (l1 : K.lookup f1 = some ⟨oc1, od1, .func (PySem.W.fnOf "_law_draw" "_law_draw" (defArgs s__law_draw) (defBody s__law_draw) (defScope s__law_draw) .none kV1 dc1 pm1 an1 cd1 ct1), sl1⟩) (c1 : PySem.W.codeIn K cd1 "_law_draw" = true) (k1 : PySem.W.keepIn K (.ref f1) = true)
    (a2 : PySem.W.nsIn K mainGlobals "_law_lengths" = some (some (.ref f2)))
    (l2 : K.lookup f2 = some ⟨oc2, od2, .func (PySem.W.fnOf "_law_lengths" "_law_lengths" (defArgs s__law_lengths) (defBody s__law_lengths) (defScope s__law_lengths) .none kV2 dc2 pm2 an2 cd2 ct2), sl2⟩) (c2 : PySem.W.codeIn K cd2 "_law_lengths" = true) (k2 : PySem.W.keepIn K (.ref f2) = true)
    (a3 : PySem.W.nsIn K mainGlobals "_law_wide" = some (some (.ref f3)))
    (l3 : K.lookup f3 = some ⟨oc3, od3, .func (PySem.W.fnOf "_law_wide" "_law_wide" (defArgs s__law_wide) (defBody s__law_wide) (defScope s__law_wide) .none kV3 dc3 pm3 an3 cd3 ct3), sl3⟩) (c3 : PySem.W.codeIn K cd3 "_law_wide" = true) (k3 : PySem.W.keepIn K (.ref f3) = true)
    (a4 : PySem.W.nsIn K mainGlobals "_law_sheets" = some (some (.ref f4)))
    (l4 : K.lookup f4 = some ⟨oc4, od4, .func (PySem.W.fnOf "_law_sheets" "_law_sheets" (defArgs s__law_sheets) (defBody s__law_sheets) (defScope s__law_sheets) .none kV4 dc4 pm4 an4 cd4 ct4), sl4⟩) (c4 : PySem.W.codeIn K cd4 "_law_sheets" = true) (k4 : PySem.W.keepIn K (.ref f4) = true)
    (a5 : PySem.W.nsIn K mainGlobals "_law_same" = some (some (.ref f5)))
    (l5 : K.lookup f5 = some ⟨oc5, od5, .func (PySem.W.fnOf "_law_same" "_law_same" (defArgs s__law_same) (defBody s__law_same) (defScope s__law_same) .none kV5 dc5 pm5 an5 cd5 ct5), sl5⟩) (c5 : PySem.W.codeIn K cd5 "_law_same" = true) (k5 : PySem.W.keepIn K (.ref f5) = true)
    (a6 : PySem.W.nsIn K mainGlobals "check_book" = some (some (.ref f6)))
    (l6 : K.lookup f6 = some ⟨oc6, od6, .func (PySem.W.fnOf "check_book" "check_book" (defArgs s_check_book) (defBody s_check_book) (defScope s_check_book) .none kV6 dc6 pm6 an6 cd6 ct6), sl6⟩) (c6 : PySem.W.codeIn K cd6 "check_book" = true) (k6 : PySem.W.keepIn K (.ref f6) = true)
    (a7 : PySem.W.nsIn K mainGlobals "check_size" = some (some (.ref f7)))
    (l7 : K.lookup f7 = some ⟨oc7, od7, .func (PySem.W.fnOf "check_size" "check_size" (defArgs s_check_size) (defBody s_check_size) (defScope s_check_size) .none kV7 dc7 pm7 an7 cd7 ct7), sl7⟩) (c7 : PySem.W.codeIn K cd7 "check_size" = true) (k7 : PySem.W.keepIn K (.ref f7) = true)
    (a8 : PySem.W.nsIn K mainGlobals "check_number" = some (some (.ref f8)))
    (l8 : K.lookup f8 = some ⟨oc8, od8, .func (PySem.W.fnOf "check_number" "check_number" (defArgs s_check_number) (defBody s_check_number) (defScope s_check_number) .none kV8 dc8 pm8 an8 cd8 ct8), sl8⟩) (c8 : PySem.W.codeIn K cd8 "check_number" = true) (k8 : PySem.W.keepIn K (.ref f8) = true)
    (a9 : PySem.W.nsIn K mainGlobals "chapter_pages" = some (some (.ref f9)))
    (l9 : K.lookup f9 = some ⟨oc9, od9, .func (PySem.W.fnOf "chapter_pages" "chapter_pages" (defArgs s_chapter_pages) (defBody s_chapter_pages) (defScope s_chapter_pages) .none kV9 dc9 pm9 an9 cd9 ct9), sl9⟩) (c9 : PySem.W.codeIn K cd9 "chapter_pages" = true) (k9 : PySem.W.keepIn K (.ref f9) = true)
    (a10 : PySem.W.nsIn K mainGlobals "count_pages" = some (some (.ref f10)))
    (l10 : K.lookup f10 = some ⟨oc10, od10, .func (PySem.W.fnOf "count_pages" "count_pages" (defArgs s_count_pages) (defBody s_count_pages) (defScope s_count_pages) .none kV10 dc10 pm10 an10 cd10 ct10), sl10⟩) (c10 : PySem.W.codeIn K cd10 "count_pages" = true) (k10 : PySem.W.keepIn K (.ref f10) = true)
    (a11 : PySem.W.nsIn K mainGlobals "page_of" = some (some (.ref f11)))
    (l11 : K.lookup f11 = some ⟨oc11, od11, .func (PySem.W.fnOf "page_of" "page_of" (defArgs s_page_of) (defBody s_page_of) (defScope s_page_of) .none kV11 dc11 pm11 an11 cd11 ct11), sl11⟩) (c11 : PySem.W.codeIn K cd11 "page_of" = true) (k11 : PySem.W.keepIn K (.ref f11) = true)
    (a12 : PySem.W.nsIn K mainGlobals "find_chapter" = some (some (.ref f12)))
    (l12 : K.lookup f12 = some ⟨oc12, od12, .func (PySem.W.fnOf "find_chapter" "find_chapter" (defArgs s_find_chapter) (defBody s_find_chapter) (defScope s_find_chapter) .none kV12 dc12 pm12 an12 cd12 ct12), sl12⟩) (c12 : PySem.W.codeIn K cd12 "find_chapter" = true) (k12 : PySem.W.keepIn K (.ref f12) = true)
    (a13 : PySem.W.nsIn K mainGlobals "lines_on" = some (some (.ref f13)))
    (l13 : K.lookup f13 = some ⟨oc13, od13, .func (PySem.W.fnOf "lines_on" "lines_on" (defArgs s_lines_on) (defBody s_lines_on) (defScope s_lines_on) .none kV13 dc13 pm13 an13 cd13 ct13), sl13⟩) (c13 : PySem.W.codeIn K cd13 "lines_on" = true) (k13 : PySem.W.keepIn K (.ref f13) = true)
    (in_Unreadable : PySem.W.findIn K (.ref c_Unreadable) "__init__" = some (some (.ref f14)))
    (l14 : K.lookup f14 = some ⟨oc14, od14, .func (PySem.W.fnOf "__init__" "Unreadable.__init__" (defArgs s_Unreadable___init__) (defBody s_Unreadable___init__) (defScope s_Unreadable___init__) .none kV14 dc14 pm14 an14 cd14 ct14), sl14⟩) (c14 : PySem.W.codeIn K cd14 "Unreadable.__init__" = true) (k14 : PySem.W.keepIn K (.ref f14) = true)
    (a15 : PySem.W.nsIn K mainGlobals "read_number" = some (some (.ref f15)))
    (l15 : K.lookup f15 = some ⟨oc15, od15, .func (PySem.W.fnOf "read_number" "read_number" (defArgs s_read_number) (defBody s_read_number) (defScope s_read_number) .none kV15 dc15 pm15 an15 cd15 ct15), sl15⟩) (c15 : PySem.W.codeIn K cd15 "read_number" = true) (k15 : PySem.W.keepIn K (.ref f15) = true)
    (a16 : PySem.W.nsIn K mainGlobals "read_chapters" = some (some (.ref f16)))
    (l16 : K.lookup f16 = some ⟨oc16, od16, .func (PySem.W.fnOf "read_chapters" "read_chapters" (defArgs s_read_chapters) (defBody s_read_chapters) (defScope s_read_chapters) .none kV16 dc16 pm16 an16 cd16 ct16), sl16⟩) (c16 : PySem.W.codeIn K cd16 "read_chapters" = true) (k16 : PySem.W.keepIn K (.ref f16) = true)
    (a17 : PySem.W.nsIn K mainGlobals "read_book" = some (some (.ref f17)))
    (l17 : K.lookup f17 = some ⟨oc17, od17, .func (PySem.W.fnOf "read_book" "read_book" (defArgs s_read_book) (defBody s_read_book) (defScope s_read_book) .none kV17 dc17 pm17 an17 cd17 ct17), sl17⟩) (c17 : PySem.W.codeIn K cd17 "read_book" = true) (k17 : PySem.W.keepIn K (.ref f17) = true)
    (a18 : PySem.W.nsIn K mainGlobals "_law_total" = some (some (.ref f18)))
    (l18 : K.lookup f18 = some ⟨oc18, od18, .func (PySem.W.fnOf "_law_total" "_law_total" (defArgs s__law_total) (defBody s__law_total) (defScope s__law_total) .none kV18 dc18 pm18 an18 cd18 ct18), sl18⟩) (c18 : PySem.W.codeIn K cd18 "_law_total" = true) (k18 : PySem.W.keepIn K (.ref f18) = true)
    (a19 : PySem.W.nsIn K mainGlobals "_law_pages" = some (some (.ref f19)))
    (l19 : K.lookup f19 = some ⟨oc19, od19, .func (PySem.W.fnOf "_law_pages" "_law_pages" (defArgs s__law_pages) (defBody s__law_pages) (defScope s__law_pages) .none kV19 dc19 pm19 an19 cd19 ct19), sl19⟩) (c19 : PySem.W.codeIn K cd19 "_law_pages" = true) (k19 : PySem.W.keepIn K (.ref f19) = true)
    (a20 : PySem.W.nsIn K mainGlobals "_law_small_right" = some (some (.ref f20)))
    (l20 : K.lookup f20 = some ⟨oc20, od20, .func (PySem.W.fnOf "_law_small_right" "_law_small_right" (defArgs s__law_small_right) (defBody s__law_small_right) (defScope s__law_small_right) .none kV20 dc20 pm20 an20 cd20 ct20), sl20⟩) (c20 : PySem.W.codeIn K cd20 "_law_small_right" = true) (k20 : PySem.W.keepIn K (.ref f20) = true)
    (a21 : PySem.W.nsIn K mainGlobals "_law_great_right" = some (some (.ref f21)))
    (l21 : K.lookup f21 = some ⟨oc21, od21, .func (PySem.W.fnOf "_law_great_right" "_law_great_right" (defArgs s__law_great_right) (defBody s__law_great_right) (defScope s__law_great_right) .none kV21 dc21 pm21 an21 cd21 ct21), sl21⟩) (c21 : PySem.W.codeIn K cd21 "_law_great_right" = true) (k21 : PySem.W.keepIn K (.ref f21) = true)
    (a22 : PySem.W.nsIn K mainGlobals "_law_read_right" = some (some (.ref f22)))
    (l22 : K.lookup f22 = some ⟨oc22, od22, .func (PySem.W.fnOf "_law_read_right" "_law_read_right" (defArgs s__law_read_right) (defBody s__law_read_right) (defScope s__law_read_right) .none kV22 dc22 pm22 an22 cd22 ct22), sl22⟩) (c22 : PySem.W.codeIn K cd22 "_law_read_right" = true) (k22 : PySem.W.keepIn K (.ref f22) = true)
    (a23 : PySem.W.nsIn K mainGlobals "law" = some (some (.ref f23)))
    (l23 : K.lookup f23 = some ⟨oc23, od23, .func (PySem.W.fnOf "law" "law" (defArgs s_law) (defBody s_law) (defScope s_law) .none kV23 dc23 pm23 an23 cd23 ct23), sl23⟩) (c23 : PySem.W.codeIn K cd23 "law" = true) (k23 : PySem.W.keepIn K (.ref f23) = true)
    (z0 : PySem.W.nsIn K mainGlobals "bool" = some none)
    (z1 : PySem.W.nsIn K mainGlobals "enumerate" = some none)
    (z2 : PySem.W.nsIn K mainGlobals "int" = some none)
    (z3 : PySem.W.nsIn K mainGlobals "isinstance" = some none)
    (z4 : PySem.W.nsIn K mainGlobals "len" = some none)
    (z5 : PySem.W.nsIn K mainGlobals "list" = some none)
    (z6 : PySem.W.nsIn K mainGlobals "max" = some none)
    (z7 : PySem.W.nsIn K mainGlobals "min" = some none)
    (z8 : PySem.W.nsIn K mainGlobals "range" = some none)
    (z9 : PySem.W.nsIn K mainGlobals "repr" = some none)
    (z10 : PySem.W.nsIn K mainGlobals "str" = some none)
    (z11 : PySem.W.nsIn K mainGlobals "sum" = some none)
    (z12 : PySem.W.nsIn K mainGlobals "tuple" = some none)
    {tk_MOST_DIGITS : PySem.Tok} (v_MOST_DIGITS : PySem.W.nsIn K mainGlobals "MOST_DIGITS" = some (some (.int 40 tk_MOST_DIGITS)))
    {nm_Unreadable qn_Unreadable : Str} {N_Unreadable : Addr} {bs_Unreadable bm_Unreadable : List Value} {sn_Unreadable : List Str} {sub_Unreadable : List Value} {ab_Unreadable : Bool} {col_Unreadable : Option Bool} {dd_Unreadable : Option Addr} {k0_Unreadable k1_Unreadable k2_Unreadable k3_Unreadable k5_Unreadable : Option Value}
    (l_Unreadable : K.lookup c_Unreadable = some (excClassObj nm_Unreadable qn_Unreadable c_Unreadable N_Unreadable bs_Unreadable bm_Unreadable true sn_Unreadable sub_Unreadable ab_Unreadable col_Unreadable dd_Unreadable k0_Unreadable k1_Unreadable k2_Unreadable k3_Unreadable k5_Unreadable "ValueError.__new__"))
    (r_Unreadable : PySem.HandSPX.refsVE bm_Unreadable = true)
    (sa_Unreadable : PySem.W.findIn K (.ref c_Unreadable) "__setattr__" = some (some (.builtin "object.__setattr__")))
    (ex_Unreadable : PySem.W.subIn K (.ref c_Unreadable) (.type "BaseException") = some true)
    (ty_Unreadable : PySem.W.typeIn K (.ref c_Unreadable) = some (.type "type"))
    (kc_Unreadable : PySem.W.keepIn K (.ref c_Unreadable) = true)
    (ga_Unreadable : PySem.W.findIn K (.ref c_Unreadable) "__getattribute__" = some (some (.builtin "BaseException.__getattribute__")))
    (gg_Unreadable : PySem.W.findIn K (.ref c_Unreadable) "__getattr__" = some none)
    (hd_Unreadable : PySem.W.hasDictIn K c_Unreadable = true)
    (ha_Unreadable : PySem.W.findIn K (.ref c_Unreadable) "__class__" = some (some (.builtin "object.__class__")))
    (hn_Unreadable : PySem.W.specialIn K (.builtin "object.__class__") "__get__" = some (some (.builtin "getset_descriptor.__get__")))
    (ht_Unreadable : PySem.W.takesIn K (.builtin "object.__class__") = some true)
    (hm_Unreadable : PySem.W.mroIn K c_Unreadable (.type "object") = some true)
    (nv_Unreadable : PySem.W.findIn K (.ref c_Unreadable) "value" = some none)
    (ti_Unreadable : PySem.W.typeIn K (.ref f14) = some (.type "function"))
    (kq_Unreadable_Unreadable : PySem.W.kitOne K (.ref c_Unreadable) (.ref c_Unreadable) = some true)
    (kq_Unreadable_ValueError : PySem.W.kitOne K (.ref c_Unreadable) (.type "ValueError") = some true)
    : ∃ fd : FuncData, (∀ (s : Shared) (v : Value), BindsTo s fd ⟨[v], []⟩ [("script", v)]) ∧ ∀ base : Heap, K.In base → base.Ns mainGlobals mg → HS.FnG l.prog w K mg base CX0 6 fa fd ["script"] (sp_law K) := by
  have e := hfa.symm.trans (PySem.W.mg_of X G a23)
  cases e
  have F0 := fun_mk (st := s__law_source) l0 c0 k0
  have F1 := fun_mk (st := s__law_draw) l1 c1 k1
  have F2 := fun_mk (st := s__law_lengths) l2 c2 k2
  have F3 := fun_mk (st := s__law_wide) l3 c3 k3
  have F4 := fun_mk (st := s__law_sheets) l4 c4 k4
  have F5 := fun_mk (st := s__law_same) l5 c5 k5
  have F6 := fun_mk (st := s_check_book) l6 c6 k6
  have F7 := fun_mk (st := s_check_size) l7 c7 k7
  have F8 := fun_mk (st := s_check_number) l8 c8 k8
  have F9 := fun_mk (st := s_chapter_pages) l9 c9 k9
  have F10 := fun_mk (st := s_count_pages) l10 c10 k10
  have F11 := fun_mk (st := s_page_of) l11 c11 k11
  have F12 := fun_mk (st := s_find_chapter) l12 c12 k12
  have F13 := fun_mk (st := s_lines_on) l13 c13 k13
  have F14 := fun_mk (st := s_Unreadable___init__) l14 c14 k14
  have F15 := fun_mk (st := s_read_number) l15 c15 k15
  have F16 := fun_mk (st := s_read_chapters) l16 c16 k16
  have F17 := fun_mk (st := s_read_book) l17 c17 k17
  have F18 := fun_mk (st := s__law_total) l18 c18 k18
  have F19 := fun_mk (st := s__law_pages) l19 c19 k19
  have F20 := fun_mk (st := s__law_small_right) l20 c20 k20
  have F21 := fun_mk (st := s__law_great_right) l21 c21 k21
  have F22 := fun_mk (st := s__law_read_right) l22 c22 k22
  have F23 := fun_mk (st := s_law) l23 c23 k23
  have T : Txt K mg ⟨f0, PySem.W.fnOf "_law_source" "_law_source" (defArgs s__law_source) (defBody s__law_source) (defScope s__law_source) .none kV0 dc0 pm0 an0 cd0 ct0, f1, PySem.W.fnOf "_law_draw" "_law_draw" (defArgs s__law_draw) (defBody s__law_draw) (defScope s__law_draw) .none kV1 dc1 pm1 an1 cd1 ct1, f2, PySem.W.fnOf "_law_lengths" "_law_lengths" (defArgs s__law_lengths) (defBody s__law_lengths) (defScope s__law_lengths) .none kV2 dc2 pm2 an2 cd2 ct2, f3, PySem.W.fnOf "_law_wide" "_law_wide" (defArgs s__law_wide) (defBody s__law_wide) (defScope s__law_wide) .none kV3 dc3 pm3 an3 cd3 ct3, f4, PySem.W.fnOf "_law_sheets" "_law_sheets" (defArgs s__law_sheets) (defBody s__law_sheets) (defScope s__law_sheets) .none kV4 dc4 pm4 an4 cd4 ct4, f5, PySem.W.fnOf "_law_same" "_law_same" (defArgs s__law_same) (defBody s__law_same) (defScope s__law_same) .none kV5 dc5 pm5 an5 cd5 ct5, f6, PySem.W.fnOf "check_book" "check_book" (defArgs s_check_book) (defBody s_check_book) (defScope s_check_book) .none kV6 dc6 pm6 an6 cd6 ct6, f7, PySem.W.fnOf "check_size" "check_size" (defArgs s_check_size) (defBody s_check_size) (defScope s_check_size) .none kV7 dc7 pm7 an7 cd7 ct7, f8, PySem.W.fnOf "check_number" "check_number" (defArgs s_check_number) (defBody s_check_number) (defScope s_check_number) .none kV8 dc8 pm8 an8 cd8 ct8, f9, PySem.W.fnOf "chapter_pages" "chapter_pages" (defArgs s_chapter_pages) (defBody s_chapter_pages) (defScope s_chapter_pages) .none kV9 dc9 pm9 an9 cd9 ct9, f10, PySem.W.fnOf "count_pages" "count_pages" (defArgs s_count_pages) (defBody s_count_pages) (defScope s_count_pages) .none kV10 dc10 pm10 an10 cd10 ct10, f11, PySem.W.fnOf "page_of" "page_of" (defArgs s_page_of) (defBody s_page_of) (defScope s_page_of) .none kV11 dc11 pm11 an11 cd11 ct11, f12, PySem.W.fnOf "find_chapter" "find_chapter" (defArgs s_find_chapter) (defBody s_find_chapter) (defScope s_find_chapter) .none kV12 dc12 pm12 an12 cd12 ct12, f13, PySem.W.fnOf "lines_on" "lines_on" (defArgs s_lines_on) (defBody s_lines_on) (defScope s_lines_on) .none kV13 dc13 pm13 an13 cd13 ct13, f14, PySem.W.fnOf "__init__" "Unreadable.__init__" (defArgs s_Unreadable___init__) (defBody s_Unreadable___init__) (defScope s_Unreadable___init__) .none kV14 dc14 pm14 an14 cd14 ct14, f15, PySem.W.fnOf "read_number" "read_number" (defArgs s_read_number) (defBody s_read_number) (defScope s_read_number) .none kV15 dc15 pm15 an15 cd15 ct15, f16, PySem.W.fnOf "read_chapters" "read_chapters" (defArgs s_read_chapters) (defBody s_read_chapters) (defScope s_read_chapters) .none kV16 dc16 pm16 an16 cd16 ct16, f17, PySem.W.fnOf "read_book" "read_book" (defArgs s_read_book) (defBody s_read_book) (defScope s_read_book) .none kV17 dc17 pm17 an17 cd17 ct17, f18, PySem.W.fnOf "_law_total" "_law_total" (defArgs s__law_total) (defBody s__law_total) (defScope s__law_total) .none kV18 dc18 pm18 an18 cd18 ct18, f19, PySem.W.fnOf "_law_pages" "_law_pages" (defArgs s__law_pages) (defBody s__law_pages) (defScope s__law_pages) .none kV19 dc19 pm19 an19 cd19 ct19, f20, PySem.W.fnOf "_law_small_right" "_law_small_right" (defArgs s__law_small_right) (defBody s__law_small_right) (defScope s__law_small_right) .none kV20 dc20 pm20 an20 cd20 ct20, f21, PySem.W.fnOf "_law_great_right" "_law_great_right" (defArgs s__law_great_right) (defBody s__law_great_right) (defScope s__law_great_right) .none kV21 dc21 pm21 an21 cd21 ct21, f22, PySem.W.fnOf "_law_read_right" "_law_read_right" (defArgs s__law_read_right) (defBody s__law_read_right) (defScope s__law_read_right) .none kV22 dc22 pm22 an22 cd22 ct22, fa, PySem.W.fnOf "law" "law" (defArgs s_law) (defBody s_law) (defScope s_law) .none kV23 dc23 pm23 an23 cd23 ct23, c_Unreadable⟩ :=
    { F__law_source := F0,
      g__law_source := PySem.W.mg_of X G a0,
      b__law_source := F0.binds (ps := ["script"]) fun _ _ _ _ _ _ us hl => match us, hl with | [_], _ => rfl,
      F__law_draw := F1,
      g__law_draw := PySem.W.mg_of X G a1,
      b__law_draw := F1.binds (ps := ["source", "many"]) fun _ _ _ _ _ _ us hl => match us, hl with | [_, _], _ => rfl,
      F__law_lengths := F2,
      g__law_lengths := PySem.W.mg_of X G a2,
      b__law_lengths := F2.binds (ps := ["source", "many"]) fun _ _ _ _ _ _ us hl => match us, hl with | [_, _], _ => rfl,
      F__law_wide := F3,
      g__law_wide := PySem.W.mg_of X G a3,
      b__law_wide := F3.binds (ps := ["source", "lengths"]) fun _ _ _ _ _ _ us hl => match us, hl with | [_, _], _ => rfl,
      F__law_sheets := F4,
      g__law_sheets := PySem.W.mg_of X G a4,
      b__law_sheets := F4.binds (ps := ["long", "wide"]) fun _ _ _ _ _ _ us hl => match us, hl with | [_, _], _ => rfl,
      F__law_same := F5,
      g__law_same := PySem.W.mg_of X G a5,
      b__law_same := F5.binds (ps := ["found", "wanted"]) fun _ _ _ _ _ _ us hl => match us, hl with | [_, _], _ => rfl,
      F_check_book := F6,
      g_check_book := PySem.W.mg_of X G a6,
      b_check_book := F6.binds (ps := ["book"]) fun _ _ _ _ _ _ us hl => match us, hl with | [_], _ => rfl,
      F_check_size := F7,
      g_check_size := PySem.W.mg_of X G a7,
      b_check_size := F7.binds (ps := ["size"]) fun _ _ _ _ _ _ us hl => match us, hl with | [_], _ => rfl,
      F_check_number := F8,
      g_check_number := PySem.W.mg_of X G a8,
      b_check_number := F8.binds (ps := ["number", "least", "greatest"]) fun _ _ _ _ _ _ us hl => match us, hl with | [_, _, _], _ => rfl,
      F_chapter_pages := F9,
      g_chapter_pages := PySem.W.mg_of X G a9,
      b_chapter_pages := F9.binds (ps := ["length", "size"]) fun _ _ _ _ _ _ us hl => match us, hl with | [_, _], _ => rfl,
      F_count_pages := F10,
      g_count_pages := PySem.W.mg_of X G a10,
      b_count_pages := F10.binds (ps := ["book", "size"]) fun _ _ _ _ _ _ us hl => match us, hl with | [_, _], _ => rfl,
      F_page_of := F11,
      g_page_of := PySem.W.mg_of X G a11,
      b_page_of := F11.binds (ps := ["book", "size", "chapter", "line"]) fun _ _ _ _ _ _ us hl => match us, hl with | [_, _, _, _], _ => rfl,
      F_find_chapter := F12,
      g_find_chapter := PySem.W.mg_of X G a12,
      b_find_chapter := F12.binds (ps := ["book", "size", "page"]) fun _ _ _ _ _ _ us hl => match us, hl with | [_, _, _], _ => rfl,
      F_lines_on := F13,
      g_lines_on := PySem.W.mg_of X G a13,
      b_lines_on := F13.binds (ps := ["book", "size", "page"]) fun _ _ _ _ _ _ us hl => match us, hl with | [_, _, _], _ => rfl,
      F_Unreadable___init__ := F14,
      b_Unreadable___init__ := F14.binds (ps := ["self", "value"]) fun _ _ _ _ _ _ us hl => match us, hl with | [_, _], _ => rfl,
      F_read_number := F15,
      g_read_number := PySem.W.mg_of X G a15,
      b_read_number := F15.binds (ps := ["word"]) fun _ _ _ _ _ _ us hl => match us, hl with | [_], _ => rfl,
      F_read_chapters := F16,
      g_read_chapters := PySem.W.mg_of X G a16,
      b_read_chapters := F16.binds (ps := ["part"]) fun _ _ _ _ _ _ us hl => match us, hl with | [_], _ => rfl,
      F_read_book := F17,
      g_read_book := PySem.W.mg_of X G a17,
      b_read_book := F17.binds (ps := ["text"]) fun _ _ _ _ _ _ us hl => match us, hl with | [_], _ => rfl,
      F__law_total := F18,
      g__law_total := PySem.W.mg_of X G a18,
      b__law_total := F18.binds (ps := ["lengths", "wide"]) fun _ _ _ _ _ _ us hl => match us, hl with | [_, _], _ => rfl,
      F__law_pages := F19,
      g__law_pages := PySem.W.mg_of X G a19,
      b__law_pages := F19.binds (ps := ["lengths", "wide"]) fun _ _ _ _ _ _ us hl => match us, hl with | [_, _], _ => rfl,
      F__law_small_right := F20,
      g__law_small_right := PySem.W.mg_of X G a20,
      b__law_small_right := F20.binds (ps := ["lengths", "wide"]) fun _ _ _ _ _ _ us hl => match us, hl with | [_, _], _ => rfl,
      F__law_great_right := F21,
      g__law_great_right := PySem.W.mg_of X G a21,
      b__law_great_right := F21.binds (ps := ["source", "lengths", "wide"]) fun _ _ _ _ _ _ us hl => match us, hl with | [_, _, _], _ => rfl,
      F__law_read_right := F22,
      g__law_read_right := PySem.W.mg_of X G a22,
      b__law_read_right := F22.binds (ps := ["source"]) fun _ _ _ _ _ _ us hl => match us, hl with | [_], _ => rfl,
      F_law := F23,
      g_law := PySem.W.mg_of X G a23,
      b_law := F23.binds (ps := ["script"]) fun _ _ _ _ _ _ us hl => match us, hl with | [_], _ => rfl,
      z_bool := PySem.W.mg_none_of X G z0,
      z_enumerate := PySem.W.mg_none_of X G z1,
      z_int := PySem.W.mg_none_of X G z2,
      z_isinstance := PySem.W.mg_none_of X G z3,
      z_len := PySem.W.mg_none_of X G z4,
      z_list := PySem.W.mg_none_of X G z5,
      z_max := PySem.W.mg_none_of X G z6,
      z_min := PySem.W.mg_none_of X G z7,
      z_range := PySem.W.mg_none_of X G z8,
      z_repr := PySem.W.mg_none_of X G z9,
      z_str := PySem.W.mg_none_of X G z10,
      z_sum := PySem.W.mg_none_of X G z11,
      z_tuple := PySem.W.mg_none_of X G z12,
      kb_lines_on_0_page_size_book := ⟨fun s us ws h1 h2 => match us, ws, h1, h2 with | [], [_, _, _], _, _ => .of_eq rfl, fun r1 r2 => .cons (HS.relAt r2 2) (.cons (HS.relAt r2 1) (.cons (HS.relAt r2 0) (.nil)))⟩,
      kb_page_of_0_line_chapter_size_book := ⟨fun s us ws h1 h2 => match us, ws, h1, h2 with | [], [_, _, _, _], _, _ => .of_eq rfl, fun r1 r2 => .cons (HS.relAt r2 3) (.cons (HS.relAt r2 2) (.cons (HS.relAt r2 1) (.cons (HS.relAt r2 0) (.nil))))⟩,
      m_Unreadable := PySem.W.mg_of X G m_Unreadable,
      v_MOST_DIGITS := ⟨_, PySem.W.mg_of X G v_MOST_DIGITS⟩,
      C_Unreadable := ⟨⟨_, _, _, _, _, _, _, _, _, _, _, _, _, _, _, l_Unreadable, r_Unreadable⟩, sa_Unreadable, ex_Unreadable, ty_Unreadable, kc_Unreadable⟩,
      V_Unreadable := ⟨ga_Unreadable, gg_Unreadable, ex_Unreadable, hd_Unreadable, ha_Unreadable, hn_Unreadable, ht_Unreadable, hm_Unreadable⟩,
      X_Unreadable := ⟨ga_Unreadable, gg_Unreadable, ex_Unreadable, hd_Unreadable⟩,
      n_Unreadable := nv_Unreadable,
      i_Unreadable := in_Unreadable,
      t_Unreadable := ti_Unreadable,
      k_Unreadable := ⟨fun s us ws _ h1 h2 => match us, ws, h1, h2 with | [_], [_], _, _ => .of_eq rfl, fun r1 r2 => r1.append r2⟩,
      q_Unreadable_Unreadable := kq_Unreadable_Unreadable,
      q_Unreadable_ValueError := kq_Unreadable_ValueError }
  exact ⟨_, fun s v => .of_eq rfl, fun base _ _ => ok_law T⟩
end WK03
open PySem PySem.W PyProof.Rows
set_option maxHeartbeats 0 in
theorem PySem.Challenge.cw_pagecounts_k03_places_of_lines_holds : PySem.Challenge.rw_pagecounts_k03_places_of_lines.Holds := by
  w_on; o_law; k_head; (case hw => w_witness2)
  k_fill
  refine HS.walk_ofG (l := PySem.Challenge.rw_pagecounts_k03_places_of_lines) (n := 63) (k := 6) (x := "script") (CX := fun _ => L2.CX0) (sp := fun w => WK03.sp_law _) rfl (by decide) rfl ⟨rfl, by decide, by decide⟩ (fun w h Y => PySem.W.kIn_of Y) ?F (fun _ _ a ns hl _ hS => ⟨a, ns, rfl, hS, hl, fun _ => rfl⟩) (fun _ _ _ _ _ h => h)
  case F =>
    intro w mg fa h KX G hmg
    refine' WK03.all_mk KX G hmg ?m_Unreadable ?a0 ?l0 ?c0 ?k0 ?a1 ?l1 ?c1 ?k1 ?a2 ?l2 ?c2 ?k2 ?a3 ?l3 ?c3 ?k3 ?a4 ?l4 ?c4 ?k4 ?a5 ?l5 ?c5 ?k5 ?a6 ?l6 ?c6 ?k6 ?a7 ?l7 ?c7 ?k7 ?a8 ?l8 ?c8 ?k8 ?a9 ?l9 ?c9 ?k9 ?a10 ?l10 ?c10 ?k10 ?a11 ?l11 ?c11 ?k11 ?a12 ?l12 ?c12 ?k12 ?a13 ?l13 ?c13 ?k13 ?in_Unreadable ?l14 ?c14 ?k14 ?a15 ?l15 ?c15 ?k15 ?a16 ?l16 ?c16 ?k16 ?a17 ?l17 ?c17 ?k17 ?a18 ?l18 ?c18 ?k18 ?a19 ?l19 ?c19 ?k19 ?a20 ?l20 ?c20 ?k20 ?a21 ?l21 ?c21 ?k21 ?a22 ?l22 ?c22 ?k22 ?a23 ?l23 ?c23 ?k23 ?z0 ?z1 ?z2 ?z3 ?z4 ?z5 ?z6 ?z7 ?z8 ?z9 ?z10 ?z11 ?z12 ?v_MOST_DIGITS ?l_Unreadable ?r_Unreadable ?sa_Unreadable ?ex_Unreadable ?ty_Unreadable ?kc_Unreadable ?ga_Unreadable ?gg_Unreadable ?hd_Unreadable ?ha_Unreadable ?hn_Unreadable ?ht_Unreadable ?hm_Unreadable ?nv_Unreadable ?ti_Unreadable ?kq_Unreadable_Unreadable ?kq_Unreadable_ValueError
    (case m_Unreadable => k_is); (case a0 => k_is); (case l0 => k_is); (case c0 => k_is); (case k0 => k_is); (case a1 => k_is); (case l1 => k_is); (case c1 => k_is); (case k1 => k_is); (case a2 => k_is); (case l2 => k_is); (case c2 => k_is); (case k2 => k_is); (case a3 => k_is); (case l3 => k_is); (case c3 => k_is); (case k3 => k_is); (case a4 => k_is); (case l4 => k_is); (case c4 => k_is); (case k4 => k_is); (case a5 => k_is); (case l5 => k_is); (case c5 => k_is); (case k5 => k_is); (case a6 => k_is); (case l6 => k_is); (case c6 => k_is); (case k6 => k_is); (case a7 => k_is); (case l7 => k_is); (case c7 => k_is); (case k7 => k_is); (case a8 => k_is); (case l8 => k_is); (case c8 => k_is); (case k8 => k_is); (case a9 => k_is); (case l9 => k_is); (case c9 => k_is); (case k9 => k_is); (case a10 => k_is); (case l10 => k_is); (case c10 => k_is); (case k10 => k_is); (case a11 => k_is); (case l11 => k_is); (case c11 => k_is); (case k11 => k_is); (case a12 => k_is); (case l12 => k_is); (case c12 => k_is); (case k12 => k_is); (case a13 => k_is); (case l13 => k_is); (case c13 => k_is); (case k13 => k_is); (case in_Unreadable => k_is); (case l14 => k_is); (case c14 => k_is); (case k14 => k_is); (case a15 => k_is); (case l15 => k_is); (case c15 => k_is); (case k15 => k_is); (case a16 => k_is); (case l16 => k_is); (case c16 => k_is); (case k16 => k_is); (case a17 => k_is); (case l17 => k_is); (case c17 => k_is); (case k17 => k_is); (case a18 => k_is); (case l18 => k_is); (case c18 => k_is); (case k18 => k_is); (case a19 => k_is); (case l19 => k_is); (case c19 => k_is); (case k19 => k_is); (case a20 => k_is); (case l20 => k_is); (case c20 => k_is); (case k20 => k_is); (case a21 => k_is); (case l21 => k_is); (case c21 => k_is); (case k21 => k_is); (case a22 => k_is); (case l22 => k_is); (case c22 => k_is); (case k22 => k_is); (case a23 => k_is); (case l23 => k_is); (case c23 => k_is); (case k23 => k_is); (case z0 => k_is); (case z1 => k_is); (case z2 => k_is); (case z3 => k_is); (case z4 => k_is); (case z5 => k_is); (case z6 => k_is); (case z7 => k_is); (case z8 => k_is); (case z9 => k_is); (case z10 => k_is); (case z11 => k_is); (case z12 => k_is); (case v_MOST_DIGITS => k_is); (case l_Unreadable => k_is); (case r_Unreadable => rfl); (case sa_Unreadable => k_is); (case ex_Unreadable => k_is); (case ty_Unreadable => k_is); (case kc_Unreadable => k_is); (case ga_Unreadable => k_is); (case gg_Unreadable => k_is); (case hd_Unreadable => k_is); (case ha_Unreadable => k_is); (case hn_Unreadable => k_is); (case ht_Unreadable => k_is); (case hm_Unreadable => k_is); (case nv_Unreadable => k_is); (case ti_Unreadable => k_is); (case kq_Unreadable_Unreadable => kit_is); (case kq_Unreadable_ValueError => kit_is)

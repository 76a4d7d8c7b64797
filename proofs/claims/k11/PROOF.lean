import PyProof.Rows.All
import Wide.All
import OpenK.AllK
import Wide.FinOn
import PyProof.EqAt
import PyProof.EqKinds
import PyProof.TupleCall
import KE.KMathGC
import HandS.ForMost
import HandS.ForExc
import HandS.Wide
import HandS.Gcd
import HandS.IsInst
import HandS.ExcInit
import HandS.ExcIs
import HandS.ExcField
import HandS.SetFor
import HandS.Walk
import KE.KExcIs
import HandS.Defaults
import HandS.Evl
import PySem.Challenge.RW_lastside_k11_merges
set_option Elab.async false
set_option linter.all false
set_option maxRecDepth 100000
namespace L2
open PySem PySem.Spec PyProof.Rows
/-! ### what is kept -/
/-- all but p is as it was -/
def But (p : Addr) (H H' : Hp) : Prop := ∀ b o, b ≠ p → H b = some o → H' b = some o
theorem But.refl (p : Addr) (H : Hp) : But p H H := fun _ _ _ e => e
theorem But.trans {p : Addr} {H H1 H2 : Hp} (a : But p H H1) (b : But p H1 H2) : But p H H2 := fun c o n e => b c o n (a c o n e)
theorem But.of {p : Addr} {H H1 : Hp} (a : Same H H1) : But p H H1 := fun c o _ e => a c o e
theorem But.upd {p : Addr} {H : Hp} {o : HO} : But p H (upd H p o) := fun _ _ n e => (upd_ne n).trans e
/-- what was there ahead of p stays -/
theorem But.same {p : Addr} {H H1 H2 : Hp} (n : H p = none) (a : Same H H1) (b : But p H1 H2) : Same H H2 := fun c o e => b c o (ne_of_none e n) (a c o e)
theorem But.back {p : Addr} {H H1 : Hp} (a : But p H H1) {x : Addr} (ne : x ≠ p) (n : H1 x = none) : H x = none := by
  cases e : H x with
  | none => rfl
  | some o => rw [a x o ne e] at n; cases n
theorem same_new {H : Hp} {p : Addr} {o : HO} (n : H p = none) : Same H (upd H p o) := fun _ _ e => (upd_ne (ne_of_none e n)).trans e
theorem SqL.lst {K : PySem.W.Frag} {H : Hp} {a : Addr} {xs : List V} (e : H a = some (.lst xs)) : SqL K H a xs := .inl (.inl e)
theorem SqT.tup {K : PySem.W.Frag} {H : Hp} {a : Addr} {xs : List V} (e : H a = some (.tup xs)) : SqT K H a xs := .inl (.inl e)
theorem but_seq {K : PySem.W.Frag} {p a : Addr} {H H1 : Hp} {xs : List V} (b : But p H H1) (ne : a ≠ p) (h : SqL K H a xs) : SqL K H1 a xs := by
  rcases h with (h | ⟨o, h⟩) | h
  · exact .inl (.inl (b _ _ ne h))
  · exact .inl (.inr ⟨o, b _ _ ne h⟩)
  · exact .inr h
theorem same_seqT {K : PySem.W.Frag} {a : Addr} {H H1 : Hp} {xs : List V} (b : Same H H1) (h : SqT K H a xs) : SqT K H1 a xs := by
  rcases h with (h | ⟨o, h⟩) | h
  · exact .inl (.inl (b _ _ h))
  · exact .inl (.inr ⟨o, b _ _ h⟩)
  · exact .inr h
/-! ### the law's own cells and digits -/
/-- a box at p: a number and a count of at most n -/
def Box (H : Hp) (p : Addr) (n : Nat) : Prop := ∃ b c : Int, H p = some (.lst [.int b, .int c]) ∧ 0 ≤ b ∧ 0 ≤ c ∧ c ≤ n
theorem Box.mono {H : Hp} {p : Addr} {n m : Nat} (h : Box H p n) (l : n ≤ m) : Box H p m := by
  obtain ⟨b, c, e, h1, h2, h3⟩ := h
  exact ⟨b, c, e, h1, h2, by omega⟩
theorem Box.same {H H' : Hp} {p : Addr} {n : Nat} (s : Same H H') (h : Box H p n) : Box H' p n := by
  obtain ⟨b, c, e, h1⟩ := h
  exact ⟨b, c, s _ _ e, h1⟩
/-- some number from 0 on -/
def spCellB (K : PySem.W.Frag) : Sp := fun vs H Q _ => ∃ (a : Addr) (ns : List Int) (k : Nat), vs = [.ref a, .int (k : Int)] ∧ k ≤ 1000 ∧ SqL K H a (ns.map V.int) ∧ ∀ i : Int, 0 ≤ i → Q (.int i) H
def spBox (K : PySem.W.Frag) : Sp := fun vs H Q _ => ∃ (a : Addr) (ns : List Int) (k : Nat), vs = [.ref a, .int (k : Int)] ∧ k ≤ 1000 ∧ SqL K H a (ns.map V.int) ∧ ∀ p H', H p = none → Same H H' → Box H' p 0 → Q (.ref p) H'
/-- a digit below size -/
def spTake : Sp := fun vs H Q _ => ∃ (p : Addr) (size n : Nat), vs = [.ref p, .int (size : Int)] ∧ Box H p n ∧ n ≤ 1000000 ∧ 0 < size ∧ size < 2 ^ 62 ∧ ∀ (d : Nat) H', d < size → But p H H' → Box H' p (n + 1) → Q (.int (d : Int)) H'
theorem iteB {b : Bool} {A B : Prop} (h1 : b = true → A) (h2 : b = false → B) : if b = true then A else B := by
  cases b with
  | true => exact h1 rfl
  | false => exact h2 rfl
theorem yes_if {σ : St} {H : Hp} {A B : Hp → Prop} (h : A H) : tYes σ H (fun b H3 => if b = true then A H3 else B H3) := by
  show (if true = true then A H else B H)
  rw [if_pos rfl]
  exact h
theorem nat_of {i : Int} (h : 0 ≤ i) : ∃ n : Nat, i = (n : Int) := Int.eq_ofNat_of_zero_le h
end L2

namespace K11
/-- Pascal's numbers -/
def ch : Nat → Nat → Nat
  | _, 0 => 1
  | 0, _ + 1 => 0
  | n + 1, k + 1 => ch n k + ch n (k + 1)
theorem ch_zero (n : Nat) : ch n 0 = 1 := by cases n <;> rfl
theorem ch_above : ∀ {n k : Nat}, n < k → ch n k = 0
  | 0, k + 1, _ => rfl
  | n + 1, k + 1, h => by
    show ch n k + ch n (k + 1) = 0
    rw [ch_above (n := n) (k := k) (by omega), ch_above (n := n) (k := k + 1) (by omega)]
theorem ch_self : ∀ n : Nat, ch n n = 1
  | 0 => rfl
  | n + 1 => by
    show ch n n + ch n (n + 1) = 1
    rw [ch_self n, ch_above (by omega)]
theorem ch_sym : ∀ {n k : Nat}, k ≤ n → ch n (n - k) = ch n k
  | 0, k, h => by
    have e : k = 0 := by omega
    subst e
    rfl
  | n + 1, 0, _ => by
    show ch (n + 1) (n + 1) = 1
    exact ch_self _
  | n + 1, k + 1, h => by
    by_cases e : k = n
    · subst e
      rw [ch_self, show k + 1 - (k + 1) = 0 by omega, ch_zero]
    · have h1 : n + 1 - (k + 1) = (n - (k + 1)) + 1 := by omega
      rw [h1]
      show ch n (n - (k + 1)) + ch n (n - (k + 1) + 1) = ch n k + ch n (k + 1)
      rw [ch_sym (n := n) (k := k + 1) (by omega), show n - (k + 1) + 1 = n - k by omega, ch_sym (n := n) (k := k) (by omega)]
      omega
/-- the step of a product of fractions -/
theorem ch_step : ∀ (n k : Nat), ch n (k + 1) * (k + 1) = ch n k * (n - k)
  | 0, k => by
    rw [show (0 : Nat) - k = 0 by omega, Nat.mul_zero]
    show 0 * (k + 1) = 0
    omega
  | n + 1, 0 => by
    have ih := ch_step n 0
    rw [ch_zero] at ih ⊢
    show (ch n 0 + ch n (0 + 1)) * (0 + 1) = 1 * (n + 1 - 0)
    rw [ch_zero]
    simp only [Nat.zero_add, Nat.mul_one, Nat.one_mul, Nat.sub_zero] at ih ⊢
    omega
  | n + 1, k + 1 => by
    have i1 := ch_step n k
    have i2 := ch_step n (k + 1)
    by_cases h : k < n
    · have e1 : n - k = (n - (k + 1)) + 1 := by omega
      show (ch n (k + 1) + ch n (k + 1 + 1)) * (k + 1 + 1) = (ch n k + ch n (k + 1)) * (n + 1 - (k + 1))
      rw [show n + 1 - (k + 1) = n - k by omega, Nat.add_mul, Nat.add_mul, i2, ← i1, e1, Nat.mul_add, Nat.mul_add]
      simp only [Nat.mul_one]
      rw [Nat.mul_add, Nat.mul_one]
      omega
    · have z1 : ch n (k + 1) = 0 := ch_above (by omega)
      have z2 : ch n (k + 1 + 1) = 0 := ch_above (by omega)
      show (ch n (k + 1) + ch n (k + 1 + 1)) * (k + 1 + 1) = (ch n k + ch n (k + 1)) * (n + 1 - (k + 1))
      rw [z1, z2, show n + 1 - (k + 1) = 0 by omega]
      simp
theorem ch_pos : ∀ {n k : Nat}, k ≤ n → 0 < ch n k
  | _, 0, _ => by rw [ch_zero]; decide
  | n + 1, k + 1, h => by
    have := ch_pos (n := n) (k := k) (by omega)
    show 0 < ch n k + ch n (k + 1)
    omega
theorem ch_le : ∀ (n k : Nat), ch n k ≤ 2 ^ n
  | n, 0 => by rw [ch_zero]; exact Nat.one_le_two_pow
  | 0, k + 1 => by
    show 0 ≤ _
    omega
  | n + 1, k + 1 => by
    have h1 := ch_le n k
    have h2 := ch_le n (k + 1)
    show ch n k + ch n (k + 1) ≤ 2 ^ (n + 1)
    rw [Nat.pow_succ]
    omega

/-- with 0 outside -/
def chI (n t : Int) : Int := if t < 0 ∨ t > n then 0 else (ch n.toNat t.toNat : Int)
theorem chI_out {n t : Int} (h : t < 0 ∨ t > n) : chI n t = 0 := if_pos h
theorem chI_eq {n n' t t' : Int} (h : n = n') (k : t = t') : chI n t = chI n' t' := by rw [h, k]
theorem chI_in {n t : Nat} : chI n t = (ch n t : Int) := by
  unfold chI
  by_cases h : ((t : Int) < 0 ∨ (t : Int) > n)
  · rw [if_pos h, ch_above (by omega)]
    rfl
  · rw [if_neg h]
    rfl
theorem chI_pascal {n t : Int} (h : 0 ≤ n) : chI (n + 1) t = chI n t + chI n (t - 1) := by
  by_cases h0 : t < 0
  · rw [chI_out (.inl h0), chI_out (.inl h0), chI_out (.inl (by omega))]
    rfl
  · obtain ⟨k, rfl⟩ := Int.eq_ofNat_of_zero_le (show 0 ≤ t by omega)
    obtain ⟨m, rfl⟩ := Int.eq_ofNat_of_zero_le h
    cases k with
    | zero =>
      rw [show ((m : Int) + 1) = ((m + 1 : Nat) : Int) by omega, chI_in, chI_in, ch_zero, ch_zero, chI_out (.inl (by omega))]
      rfl
    | succ k =>
      rw [show ((m : Int) + 1) = ((m + 1 : Nat) : Int) by omega, show (((k + 1 : Nat) : Int) - 1) = (k : Int) by omega, chI_in, chI_in, chI_in]
      show (((ch m k + ch m (k + 1) : Nat)) : Int) = _
      omega
theorem chI_sym {n t : Int} : chI n (n - t) = chI n t := by
  by_cases h : t < 0 ∨ t > n
  · rw [chI_out h, chI_out (by omega)]
  · obtain ⟨k, rfl⟩ := Int.eq_ofNat_of_zero_le (show 0 ≤ t by omega)
    obtain ⟨m, rfl⟩ := Int.eq_ofNat_of_zero_le (show 0 ≤ n by omega)
    rw [show ((m : Int) - (k : Int)) = ((m - k : Nat) : Int) by omega, chI_in, chI_in, ch_sym (by omega)]
theorem chI_zero {t : Int} : chI 0 t = if t = 0 then 1 else 0 := by
  by_cases h : t = 0
  · subst h
    rfl
  · rw [if_neg h, chI_out (by omega)]

/-- a sum of the first n values -/
def sumTo (f : Nat → Int) : Nat → Int
  | 0 => 0
  | n + 1 => sumTo f n + f n
theorem sumTo_congr {f g : Nat → Int} : ∀ {n : Nat}, (∀ i, i < n → f i = g i) → sumTo f n = sumTo g n
  | 0, _ => rfl
  | n + 1, h => by
    show sumTo f n + f n = sumTo g n + g n
    rw [sumTo_congr (fun i hi => h i (by omega)), h n (by omega)]
theorem sumTo_zero {f : Nat → Int} : ∀ {n : Nat}, (∀ i, i < n → f i = 0) → sumTo f n = 0
  | 0, _ => rfl
  | n + 1, h => by
    show sumTo f n + f n = 0
    rw [sumTo_zero (fun i hi => h i (by omega)), h n (by omega)]
    rfl
theorem sumTo_add {f g : Nat → Int} : ∀ {n : Nat}, sumTo (fun i => f i + g i) n = sumTo f n + sumTo g n
  | 0 => rfl
  | n + 1 => by
    show sumTo (fun i => f i + g i) n + (f n + g n) = (sumTo f n + f n) + (sumTo g n + g n)
    rw [sumTo_add]
    omega
theorem sumTo_shift {f : Nat → Int} : ∀ {n : Nat}, sumTo f (n + 1) = f 0 + sumTo (fun i => f (i + 1)) n
  | 0 => by
    show (0 : Int) + f 0 = f 0 + 0
    omega
  | n + 1 => by
    show sumTo f (n + 1) + f (n + 1) = f 0 + (sumTo (fun i => f (i + 1)) n + f (n + 1))
    rw [sumTo_shift]
    omega
theorem sumTo_split {f : Nat → Int} (m : Nat) : ∀ (n : Nat), sumTo f (m + n) = sumTo f m + sumTo (fun i => f (m + i)) n
  | 0 => by
    show sumTo f m = sumTo f m + 0
    omega
  | n + 1 => by
    show sumTo f (m + n) + f (m + n) = sumTo f m + (sumTo (fun i => f (m + i)) n + f (m + n))
    rw [sumTo_split m n]
    omega
/-- Vandermonde's sum -/
theorem vander (a : Nat) : ∀ (b : Nat) (T : Int), sumTo (fun i => (ch b i : Int) * chI a (T - i)) (b + 1) = chI (a + b : Nat) T
  | 0, T => by
    show (0 : Int) + ((1 : Nat) : Int) * chI a (T - ((0 : Nat) : Int)) = chI ((a + 0 : Nat) : Int) T
    rw [show T - ((0 : Nat) : Int) = T by omega, Nat.add_zero]
    omega
  | b + 1, T => by
    have e1 : sumTo (fun i => (ch (b + 1) i : Int) * chI a (T - i)) (b + 1 + 1) = sumTo (fun i => (ch b i : Int) * chI a (T - i)) (b + 1) + sumTo (fun i => (ch b i : Int) * chI a (T - 1 - i)) (b + 1) := by
      rw [sumTo_shift (f := fun i => (ch (b + 1) i : Int) * chI a (T - i)), sumTo_shift (f := fun i => (ch b i : Int) * chI a (T - i))]
      have e2 : sumTo (fun i => (fun i : Nat => (ch (b + 1) i : Int) * chI a (T - i)) (i + 1)) (b + 1) = sumTo (fun i => (ch b i : Int) * chI a (T - 1 - i)) (b + 1) + sumTo (fun i => (ch b (i + 1) : Int) * chI a (T - ((i + 1 : Nat) : Int))) (b + 1) := by
        rw [← sumTo_add]
        refine sumTo_congr fun i _ => ?_
        show ((ch b i + ch b (i + 1) : Nat) : Int) * chI a (T - ((i + 1 : Nat) : Int)) = _
        rw [show T - 1 - (i : Int) = T - ((i + 1 : Nat) : Int) by omega, Int.natCast_add, Int.add_mul]
      rw [e2]
      have e3 : sumTo (fun i => (ch b (i + 1) : Int) * chI a (T - ((i + 1 : Nat) : Int))) (b + 1) = sumTo (fun i => (ch b (i + 1) : Int) * chI a (T - ((i + 1 : Nat) : Int))) b := by
        show sumTo _ b + (ch b (b + 1) : Int) * _ = _
        rw [ch_above (n := b) (k := b + 1) (by omega)]
        simp
      rw [e3, ch_zero, ch_zero]
      show _ = ((1 : Nat) : Int) * chI a (T - ((0 : Nat) : Int)) + sumTo (fun i => (ch b (i + 1) : Int) * chI a (T - ((i + 1 : Nat) : Int))) b + _
      omega
    rw [e1, vander a b T, vander a b (T - 1)]
    have h := chI_pascal (n := ((a + b : Nat) : Int)) (t := T) (by omega)
    rw [show (((a + (b + 1) : Nat)) : Int) = ((a + b : Nat) : Int) + 1 by omega, h]

/-! ### the two tables, in closed form; a row is its letters: true for a load -/
/-- hits among the first i letters, the first one left out -/
def hs (xs : List Bool) (i : Nat) : Nat := ((xs.take i).drop 1).count false
/-- the least number of blocks -/
def least (xs : List Bool) : Int := (xs.length : Int) - (hs xs xs.length : Int)
theorem hs_zero (xs : List Bool) : hs xs 0 = 0 := by simp [hs]
theorem hs_one (xs : List Bool) : hs xs 1 = 0 := by
  cases xs <;> simp [hs]
theorem hs_succ {xs : List Bool} {i : Nat} {c : Bool} (hi : 0 < i) (h : xs[i]? = some c) : hs xs (i + 1) = hs xs i + (if c = false then 1 else 0) := by
  unfold hs
  have hlt : i < xs.length := (List.getElem?_eq_some_iff.mp h).1
  have e : xs.take (i + 1) = xs.take i ++ [c] := by rw [List.take_add_one, h]; rfl
  have hl : 1 ≤ (xs.take i).length := by rw [List.length_take]; omega
  rw [e, List.drop_append_of_le_length hl, List.count_append]
  cases c <;> simp
theorem hs_le (xs : List Bool) : ∀ (i : Nat), hs xs i + 1 ≤ i ∨ i = 0 := fun i => by
  by_cases h : i = 0
  · exact .inr h
  · refine .inl ?_
    have h1 : hs xs i ≤ ((xs.take i).drop 1).length := List.count_le_length
    rw [List.length_drop, List.length_take] at h1
    omega
theorem hs_len (xs : List Bool) (i : Nat) : hs xs i ≤ i := by
  rcases hs_le xs i with h | h
  · omega
  · subst h
    rw [hs_zero]
    exact Nat.le_refl 0
/-- the numbers of talks that end on Y, on X -/
def Yf (xs ys : List Bool) (i j : Nat) : Int := if i = 0 ∨ j = 0 then 0 else chI ((hs xs i + hs ys j : Nat) : Int) ((i : Int) - j + hs ys j)
def Xf (xs ys : List Bool) (i j : Nat) : Int := if i = 0 then 0 else if j = 0 then (if hs xs i + 1 = i then 1 else 0) else chI ((hs xs i + hs ys j : Nat) : Int) ((i : Int) - j + hs ys j - 1)
theorem Y_zero (xs ys : List Bool) (i : Nat) : Yf xs ys i 0 = 0 := if_pos (.inr rfl)
theorem X_one_zero (xs ys : List Bool) : Xf xs ys 1 0 = 1 := by
  unfold Xf
  rw [if_neg (by decide), if_pos rfl, hs_one, if_pos rfl]
theorem X_one {xs ys : List Bool} {j : Nat} (h : 0 < j) : Xf xs ys 1 j = 0 := by
  unfold Xf
  have := hs_le ys j
  rw [if_neg (by decide), if_neg (by omega), hs_one, chI_out (.inl (by omega))]
/-- the first table's step -/
theorem X_step {xs ys : List Bool} {i j : Nat} {c : Bool} (hi : 0 < i) (h : xs[i]? = some c) : Xf xs ys (i + 1) j = Yf xs ys i j + (if c = false then Xf xs ys i j else 0) := by
  unfold Xf Yf
  rw [if_neg (show ¬ i + 1 = 0 by omega), hs_succ hi h]
  have hl := hs_le xs i
  by_cases hj : j = 0
  · subst hj
    rw [if_pos rfl, if_pos (show i = 0 ∨ 0 = 0 from .inr rfl), if_neg (show ¬ i = 0 by omega), if_pos rfl]
    cases c with
    | true =>
      rw [if_neg (show ¬ true = false by decide), if_neg (show ¬ true = false by decide), if_neg (show ¬ hs xs i + 0 + 1 = i + 1 by omega)]
      rfl
    | false =>
      rw [if_pos (show false = false from rfl), if_pos (show false = false from rfl)]
      by_cases e : hs xs i + 1 = i
      · rw [if_pos (by omega), if_pos e]
        rfl
      · rw [if_neg (by omega), if_neg e]
        rfl
  · rw [if_neg hj, if_neg (show ¬ (i = 0 ∨ j = 0) by omega), if_neg (show ¬ i = 0 by omega), if_neg hj]
    cases c with
    | true =>
      rw [if_neg (by decide), if_neg (by decide)]
      rw [show (((i + 1 : Nat)) : Int) - j + hs ys j - 1 = (i : Int) - j + hs ys j by omega, Nat.add_zero]
      omega
    | false =>
      rw [if_pos rfl, if_pos rfl]
      have p := chI_pascal (n := ((hs xs i + hs ys j : Nat) : Int)) (t := (i : Int) - j + hs ys j) (by omega)
      rw [show (((hs xs i + 1 + hs ys j : Nat)) : Int) = ((hs xs i + hs ys j : Nat) : Int) + 1 by omega, show (((i + 1 : Nat)) : Int) - j + hs ys j - 1 = (i : Int) - j + hs ys j by omega, p]
theorem Y_one {xs ys : List Bool} {i : Nat} (hi : 0 < i) : Yf xs ys i 1 = Xf xs ys i 0 := by
  unfold Yf Xf
  rw [if_neg (by omega), if_neg (by omega), if_pos rfl, hs_one]
  have hl := hs_le xs i
  by_cases e : hs xs i + 1 = i
  · rw [if_pos e, show ((i : Int) - ((1 : Nat) : Int) + ((0 : Nat) : Int)) = (hs xs i : Int) by omega, Nat.add_zero, chI_in, ch_self]
    rfl
  · rw [if_neg e, chI_out (.inr (by omega))]
/-- the second table's step -/
theorem Y_step {xs ys : List Bool} {i j : Nat} {c : Bool} (hi : 0 < i) (h : ys[j]? = some c) : Yf xs ys i (j + 1) = Xf xs ys i j + (if c = false then Yf xs ys i j else 0) := by
  by_cases hj : j = 0
  · subst hj
    rw [Y_one hi, Y_zero]
    cases c <;> simp
  · unfold Xf Yf
    rw [if_neg (show ¬ (i = 0 ∨ j + 1 = 0) by omega), if_neg (show ¬ i = 0 by omega), if_neg hj, if_neg (show ¬ (i = 0 ∨ j = 0) by omega), hs_succ (by omega) h]
    cases c with
    | true =>
      rw [if_neg (by decide), if_neg (by decide), Nat.add_zero]
      rw [show (i : Int) - ((j + 1 : Nat) : Int) + hs ys j = (i : Int) - j + hs ys j - 1 by omega]
      omega
    | false =>
      rw [if_pos rfl, if_pos rfl]
      have p := chI_pascal (n := ((hs xs i + hs ys j : Nat) : Int)) (t := (i : Int) - j + hs ys j) (by omega)
      rw [show (((hs xs i + (hs ys j + 1) : Nat)) : Int) = ((hs xs i + hs ys j : Nat) : Int) + 1 by omega, show (i : Int) - ((j + 1 : Nat) : Int) + ((hs ys j + 1 : Nat) : Int) = (i : Int) - j + hs ys j by omega, p]
      omega
/-- what merges gives -/
def mergesOf (length least other otherLeast : Int) (same : Bool) : Int :=
  if other = 0 then (if same = true ∧ least = 1 then 1 else 0) else chI (length - least + other - otherLeast) (length - otherLeast - (if same = true then 1 else 0))
theorem merges_Y {xs ys : List Bool} (h : 0 < xs.length) : mergesOf xs.length (least xs) ys.length (least ys) false = Yf xs ys xs.length ys.length := by
  unfold mergesOf Yf least
  by_cases e : ys.length = 0
  · rw [if_pos (by omega), if_neg (by simp), if_pos (.inr e)]
  · rw [if_neg (by omega), if_neg (show ¬ (xs.length = 0 ∨ ys.length = 0) by omega), if_neg (by decide)]
    exact chI_eq (by omega) (by omega)
theorem merges_X {xs ys : List Bool} (h : 0 < xs.length) : mergesOf xs.length (least xs) ys.length (least ys) true = Xf xs ys xs.length ys.length := by
  unfold mergesOf Xf least
  rw [if_neg (show ¬ xs.length = 0 by omega)]
  by_cases e : ys.length = 0
  · rw [if_pos (by omega), if_pos e]
    by_cases e2 : hs xs xs.length + 1 = xs.length
    · rw [if_pos e2, if_pos ⟨rfl, by omega⟩]
    · rw [if_neg e2, if_neg (by omega)]
  · rw [if_neg (by omega), if_neg e, if_pos rfl]
    exact chI_eq (by omega) (by omega)
/-- the number of cuts -/
def cutsOf (xs : List Bool) (blocks : Int) : Int := chI ((xs.length : Int) - least xs) (blocks - least xs)
theorem cuts_sum {xs ys : List Bool} (h : 0 < xs.length) (more : Nat) : sumTo (fun b => cutsOf xs ((b : Int) + more) * cutsOf ys b) (ys.length + 1) = chI ((hs xs xs.length + hs ys ys.length : Nat) : Int) ((xs.length : Int) - ys.length + hs ys ys.length - more) := by
  have ly := hs_len ys ys.length
  have v := vander (hs xs xs.length) (hs ys ys.length) ((xs.length : Int) - ys.length + hs ys ys.length - more)
  rw [← v]
  have e : ys.length + 1 = (ys.length - hs ys ys.length) + (hs ys ys.length + 1) := by omega
  rw [e, sumTo_split, sumTo_zero (n := ys.length - hs ys ys.length), Int.zero_add]
  · refine sumTo_congr fun i hi => ?_
    show cutsOf xs _ * cutsOf ys _ = _
    unfold cutsOf least
    rw [show (ys.length : Int) - ((ys.length : Int) - (hs ys ys.length : Int)) = ((hs ys ys.length : Nat) : Int) by omega,
      show (((ys.length - hs ys ys.length + i : Nat)) : Int) - ((ys.length : Int) - (hs ys ys.length : Int)) = (i : Int) by omega, chI_in, Int.mul_comm]
    congr 1
    rw [show (xs.length : Int) - ((xs.length : Int) - (hs xs xs.length : Int)) = ((hs xs xs.length : Nat) : Int) by omega, ← chI_sym]
    congr 1
    omega
  · intro i hi
    show cutsOf xs _ * cutsOf ys _ = 0
    have z : cutsOf ys (i : Int) = 0 := by
      unfold cutsOf least
      refine chI_out (.inl ?_)
      omega
    rw [z, Int.mul_zero]
theorem sum_Y {xs ys : List Bool} (h : 0 < xs.length) : sumTo (fun b => cutsOf xs ((b : Int) + (0 : Nat)) * cutsOf ys b) (ys.length + 1) = Yf xs ys xs.length ys.length := by
  rw [cuts_sum h]
  unfold Yf
  have lx := hs_le xs xs.length
  by_cases e : ys.length = 0
  · rw [if_pos (.inr e), e, hs_zero, chI_out (.inr (by omega))]
  · rw [if_neg (by omega)]
    congr 1
    omega
theorem sum_X {xs ys : List Bool} (h : 0 < xs.length) : sumTo (fun b => cutsOf xs ((b : Int) + (1 : Nat)) * cutsOf ys b) (ys.length + 1) = Xf xs ys xs.length ys.length := by
  rw [cuts_sum h]
  unfold Xf
  have lx := hs_le xs xs.length
  rw [if_neg (show ¬ xs.length = 0 by omega)]
  by_cases e : ys.length = 0
  · rw [if_pos e, e, hs_zero]
    by_cases e2 : hs xs xs.length + 1 = xs.length
    · rw [if_pos e2, show ((xs.length : Int) - ((0 : Nat) : Int) + ((0 : Nat) : Int) - ((1 : Nat) : Int)) = (hs xs xs.length : Int) by omega, Nat.add_zero, chI_in, ch_self]
      rfl
    · rw [if_neg e2, chI_out (.inr (by omega))]
  · rw [if_neg e]
    congr 1
end K11

/-! ### places in the text -/
namespace K11
open PySem PySem.Spec PyProof.Rows L2
def topS (i : Nat) : Stmt := PySem.Challenge.pw_lastside_k11_merges.main.body.getD i (.Pass ⟨0, 0, 0, 0⟩)
abbrev s_InvalidNumber_init : Stmt := inClass (topS 7) 0
abbrev n_InvalidNumber_init : List Str := ["self", "number"]
abbrev p_InvalidNumber_init : List Str := ["self", "number"]
theorem sc_InvalidNumber_init : FnScope n_InvalidNumber_init p_InvalidNumber_init (defScope s_InvalidNumber_init) := ⟨rfl, rfl, rfl, by decide +kernel, rfl, by decide +kernel, by decide +kernel⟩
abbrev s_is_whole : Stmt := topS 12
abbrev n_is_whole : List Str := ["value"]
abbrev p_is_whole : List Str := ["value"]
theorem sc_is_whole : FnScope n_is_whole p_is_whole (defScope s_is_whole) := ⟨rfl, rfl, rfl, by decide +kernel, rfl, by decide +kernel, by decide +kernel⟩
abbrev s_is_number : Stmt := topS 13
abbrev n_is_number : List Str := ["value", "low", "high"]
abbrev p_is_number : List Str := ["value", "low", "high"]
theorem sc_is_number : FnScope n_is_number p_is_number (defScope s_is_number) := ⟨rfl, rfl, rfl, by decide +kernel, rfl, by decide +kernel, by decide +kernel⟩
abbrev s_check_number : Stmt := topS 14
abbrev n_check_number : List Str := ["value", "low", "high"]
abbrev p_check_number : List Str := ["value", "low", "high"]
theorem sc_check_number : FnScope n_check_number p_check_number (defScope s_check_number) := ⟨rfl, rfl, rfl, by decide +kernel, rfl, by decide +kernel, by decide +kernel⟩
abbrev s_is_made_of : Stmt := topS 15
abbrev n_is_made_of : List Str := ["value", "letters", "letter"]
abbrev p_is_made_of : List Str := ["value", "letters"]
theorem sc_is_made_of : FnScope n_is_made_of p_is_made_of (defScope s_is_made_of) := ⟨rfl, rfl, rfl, by decide +kernel, rfl, by decide +kernel, by decide +kernel⟩
abbrev s_is_row : Stmt := topS 16
abbrev n_is_row : List Str := ["value"]
abbrev p_is_row : List Str := ["value"]
theorem sc_is_row : FnScope n_is_row p_is_row (defScope s_is_row) := ⟨rfl, rfl, rfl, by decide +kernel, rfl, by decide +kernel, by decide +kernel⟩
abbrev s_choose : Stmt := topS 18
abbrev n_choose : List Str := ["total", "taken"]
abbrev p_choose : List Str := ["total", "taken"]
theorem sc_choose : FnScope n_choose p_choose (defScope s_choose) := ⟨rfl, rfl, rfl, by decide +kernel, rfl, by decide +kernel, by decide +kernel⟩
abbrev s_block_count : Stmt := topS 19
abbrev n_block_count : List Str := ["row"]
abbrev p_block_count : List Str := ["row"]
theorem sc_block_count : FnScope n_block_count p_block_count (defScope s_block_count) := ⟨rfl, rfl, rfl, by decide +kernel, rfl, by decide +kernel, by decide +kernel⟩
abbrev s_merge_count : Stmt := topS 20
abbrev n_merge_count : List Str := ["length", "least", "other_length", "other_least", "same", "taken"]
abbrev p_merge_count : List Str := ["length", "least", "other_length", "other_least", "same"]
theorem sc_merge_count : FnScope n_merge_count p_merge_count (defScope s_merge_count) := ⟨rfl, rfl, rfl, by decide +kernel, rfl, by decide +kernel, by decide +kernel⟩
abbrev s_check_row : Stmt := topS 22
abbrev n_check_row : List Str := ["row"]
abbrev p_check_row : List Str := ["row"]
theorem sc_check_row : FnScope n_check_row p_check_row (defScope s_check_row) := ⟨rfl, rfl, rfl, by decide +kernel, rfl, by decide +kernel, by decide +kernel⟩
abbrev s_cut_count : Stmt := topS 23
abbrev n_cut_count : List Str := ["row", "blocks", "least"]
abbrev p_cut_count : List Str := ["row", "blocks"]
theorem sc_cut_count : FnScope n_cut_count p_cut_count (defScope s_cut_count) := ⟨rfl, rfl, rfl, by decide +kernel, rfl, by decide +kernel, by decide +kernel⟩
abbrev s_merges : Stmt := topS 24
abbrev n_merges : List Str := ["length", "least", "other_length", "other_least", "same"]
abbrev p_merges : List Str := ["length", "least", "other_length", "other_least", "same"]
theorem sc_merges : FnScope n_merges p_merges (defScope s_merges) := ⟨rfl, rfl, rfl, by decide +kernel, rfl, by decide +kernel, by decide +kernel⟩
abbrev s__law_cell : Stmt := topS 26
abbrev n__law_cell : List Str := ["script", "k"]
abbrev p__law_cell : List Str := ["script", "k"]
theorem sc__law_cell : FnScope n__law_cell p__law_cell (defScope s__law_cell) := ⟨rfl, rfl, rfl, by decide +kernel, rfl, by decide +kernel, by decide +kernel⟩
abbrev s__law_box : Stmt := topS 27
abbrev n__law_box : List Str := ["script", "k"]
abbrev p__law_box : List Str := ["script", "k"]
theorem sc__law_box : FnScope n__law_box p__law_box (defScope s__law_box) := ⟨rfl, rfl, rfl, by decide +kernel, rfl, by decide +kernel, by decide +kernel⟩
abbrev s__law_take : Stmt := topS 28
abbrev n__law_take : List Str := ["box", "size", "digit", "mixed"]
abbrev p__law_take : List Str := ["box", "size"]
theorem sc__law_take : FnScope n__law_take p__law_take (defScope s__law_take) := ⟨rfl, rfl, rfl, by decide +kernel, rfl, by decide +kernel, by decide +kernel⟩
abbrev s__law_row : Stmt := topS 29
abbrev n__law_row : List Str := ["box", "letters", "way", "row", "k", "load"]
abbrev p__law_row : List Str := ["box", "letters", "way"]
theorem sc__law_row : FnScope n__law_row p__law_row (defScope s__law_row) := ⟨rfl, rfl, rfl, by decide +kernel, rfl, by decide +kernel, by decide +kernel⟩
abbrev s__law_least : Stmt := topS 30
abbrev n__law_least : List Str := ["row"]
abbrev p__law_least : List Str := ["row"]
theorem sc__law_least : FnScope n__law_least p__law_least (defScope s__law_least) := ⟨rfl, rfl, rfl, by decide +kernel, rfl, by decide +kernel, by decide +kernel⟩
abbrev s__law_talks : Stmt := topS 31
abbrev n__law_talks : List Str := ["one", "other", "on_x", "on_y", "used", "spent", "ways", "k"]
abbrev p__law_talks : List Str := ["one", "other"]
theorem sc__law_talks : FnScope n__law_talks p__law_talks (defScope s__law_talks) := ⟨rfl, rfl, rfl, by decide +kernel, rfl, by decide +kernel, by decide +kernel⟩
abbrev s__law_choose : Stmt := topS 32
abbrev n__law_choose : List Str := ["total", "part", "ways", "k"]
abbrev p__law_choose : List Str := ["total", "part"]
theorem sc__law_choose : FnScope n__law_choose p__law_choose (defScope s__law_choose) := ⟨rfl, rfl, rfl, by decide +kernel, rfl, by decide +kernel, by decide +kernel⟩
abbrev s__law_formula : Stmt := topS 33
abbrev n__law_formula : List Str := ["numbers", "on_x", "spare"]
abbrev p__law_formula : List Str := ["numbers", "on_x"]
theorem sc__law_formula : FnScope n__law_formula p__law_formula (defScope s__law_formula) := ⟨rfl, rfl, rfl, by decide +kernel, rfl, by decide +kernel, by decide +kernel⟩
abbrev s__law_is_number : Stmt := topS 34
abbrev n__law_is_number : List Str := ["actual", "due"]
abbrev p__law_is_number : List Str := ["actual", "due"]
theorem sc__law_is_number : FnScope n__law_is_number p__law_is_number (defScope s__law_is_number) := ⟨rfl, rfl, rfl, by decide +kernel, rfl, by decide +kernel, by decide +kernel⟩
abbrev s__law_sum : Stmt := topS 35
abbrev n__law_sum : List Str := ["one", "other", "more", "total", "blocks"]
abbrev p__law_sum : List Str := ["one", "other", "more"]
theorem sc__law_sum : FnScope n__law_sum p__law_sum (defScope s__law_sum) := ⟨rfl, rfl, rfl, by decide +kernel, rfl, by decide +kernel, by decide +kernel⟩
abbrev s__law_rows_merged : Stmt := topS 36
abbrev n__law_rows_merged : List Str := ["one", "other", "any_least", "least", "other_least", "due", "actual"]
abbrev p__law_rows_merged : List Str := ["one", "other", "any_least"]
theorem sc__law_rows_merged : FnScope n__law_rows_merged p__law_rows_merged (defScope s__law_rows_merged) := ⟨rfl, rfl, rfl, by decide +kernel, rfl, by decide +kernel, by decide +kernel⟩
abbrev s__law_any_numbers : Stmt := topS 37
abbrev n__law_any_numbers : List Str := ["box", "wide", "numbers"]
abbrev p__law_any_numbers : List Str := ["box"]
theorem sc__law_any_numbers : FnScope n__law_any_numbers p__law_any_numbers (defScope s__law_any_numbers) := ⟨rfl, rfl, rfl, by decide +kernel, rfl, by decide +kernel, by decide +kernel⟩
abbrev s__law_wrong_number : Stmt := topS 38
abbrev n__law_wrong_number : List Str := ["box", "place", "pick", "values"]
abbrev p__law_wrong_number : List Str := ["box", "place"]
theorem sc__law_wrong_number : FnScope n__law_wrong_number p__law_wrong_number (defScope s__law_wrong_number) := ⟨rfl, rfl, rfl, by decide +kernel, rfl, by decide +kernel, by decide +kernel⟩
abbrev s__law_refusal : Stmt := topS 39
abbrev n__law_refusal : List Str := ["numbers", "on_x", "e", "kinds"]
abbrev p__law_refusal : List Str := ["numbers", "on_x"]
theorem sc__law_refusal : FnScope n__law_refusal p__law_refusal (defScope s__law_refusal) := ⟨rfl, rfl, rfl, by decide +kernel, rfl, by decide +kernel, by decide +kernel⟩
abbrev s__law_same : Stmt := topS 40
abbrev n__law_same : List Str := ["actual", "due"]
abbrev p__law_same : List Str := ["actual", "due"]
theorem sc__law_same : FnScope n__law_same p__law_same (defScope s__law_same) := ⟨rfl, rfl, rfl, by decide +kernel, rfl, by decide +kernel, by decide +kernel⟩
abbrev s__law_refused : Stmt := topS 41
abbrev n__law_refused : List Str := ["box", "numbers", "first", "bent", "place", "wrong", "actual"]
abbrev p__law_refused : List Str := ["box", "numbers"]
theorem sc__law_refused : FnScope n__law_refused p__law_refused (defScope s__law_refused) := ⟨rfl, rfl, rfl, by decide +kernel, rfl, by decide +kernel, by decide +kernel⟩
abbrev s_law : Stmt := topS 42
abbrev n_law : List Str := ["script", "box", "sizes", "ways", "one", "other", "numbers", "on_x", "actual"]
abbrev p_law : List Str := ["script"]
theorem sc_law : FnScope n_law p_law (defScope s_law) := ⟨rfl, rfl, rfl, by decide +kernel, rfl, by decide +kernel, by decide +kernel⟩
structure TX (K : PySem.W.Frag) (mg : Str → Option Value) where
  a_InvalidNumber_init : Addr
  d_InvalidNumber_init : FuncData
  F_InvalidNumber_init : Fun K "__init__" "InvalidNumber.__init__" s_InvalidNumber_init a_InvalidNumber_init d_InvalidNumber_init
  b_InvalidNumber_init : Binds K d_InvalidNumber_init p_InvalidNumber_init []
  a_is_whole : Addr
  d_is_whole : FuncData
  F_is_whole : Fun K "is_whole" "is_whole" s_is_whole a_is_whole d_is_whole
  m_is_whole : mg "is_whole" = some (.ref a_is_whole)
  k_is_whole : PySem.W.keepIn K (.ref a_is_whole) = true
  b_is_whole : Binds K d_is_whole p_is_whole []
  a_is_number : Addr
  d_is_number : FuncData
  F_is_number : Fun K "is_number" "is_number" s_is_number a_is_number d_is_number
  m_is_number : mg "is_number" = some (.ref a_is_number)
  k_is_number : PySem.W.keepIn K (.ref a_is_number) = true
  b_is_number : Binds K d_is_number p_is_number []
  a_check_number : Addr
  d_check_number : FuncData
  F_check_number : Fun K "check_number" "check_number" s_check_number a_check_number d_check_number
  m_check_number : mg "check_number" = some (.ref a_check_number)
  k_check_number : PySem.W.keepIn K (.ref a_check_number) = true
  b_check_number : Binds K d_check_number p_check_number []
  a_is_made_of : Addr
  d_is_made_of : FuncData
  F_is_made_of : Fun K "is_made_of" "is_made_of" s_is_made_of a_is_made_of d_is_made_of
  m_is_made_of : mg "is_made_of" = some (.ref a_is_made_of)
  k_is_made_of : PySem.W.keepIn K (.ref a_is_made_of) = true
  b_is_made_of : Binds K d_is_made_of p_is_made_of []
  a_is_row : Addr
  d_is_row : FuncData
  F_is_row : Fun K "is_row" "is_row" s_is_row a_is_row d_is_row
  m_is_row : mg "is_row" = some (.ref a_is_row)
  k_is_row : PySem.W.keepIn K (.ref a_is_row) = true
  b_is_row : Binds K d_is_row p_is_row []
  a_choose : Addr
  d_choose : FuncData
  F_choose : Fun K "choose" "choose" s_choose a_choose d_choose
  m_choose : mg "choose" = some (.ref a_choose)
  k_choose : PySem.W.keepIn K (.ref a_choose) = true
  b_choose : Binds K d_choose p_choose []
  a_block_count : Addr
  d_block_count : FuncData
  F_block_count : Fun K "block_count" "block_count" s_block_count a_block_count d_block_count
  m_block_count : mg "block_count" = some (.ref a_block_count)
  k_block_count : PySem.W.keepIn K (.ref a_block_count) = true
  b_block_count : Binds K d_block_count p_block_count []
  a_merge_count : Addr
  d_merge_count : FuncData
  F_merge_count : Fun K "merge_count" "merge_count" s_merge_count a_merge_count d_merge_count
  m_merge_count : mg "merge_count" = some (.ref a_merge_count)
  k_merge_count : PySem.W.keepIn K (.ref a_merge_count) = true
  b_merge_count : Binds K d_merge_count p_merge_count []
  a_check_row : Addr
  d_check_row : FuncData
  F_check_row : Fun K "check_row" "check_row" s_check_row a_check_row d_check_row
  m_check_row : mg "check_row" = some (.ref a_check_row)
  k_check_row : PySem.W.keepIn K (.ref a_check_row) = true
  b_check_row : Binds K d_check_row p_check_row []
  a_cut_count : Addr
  d_cut_count : FuncData
  F_cut_count : Fun K "cut_count" "cut_count" s_cut_count a_cut_count d_cut_count
  m_cut_count : mg "cut_count" = some (.ref a_cut_count)
  k_cut_count : PySem.W.keepIn K (.ref a_cut_count) = true
  b_cut_count : Binds K d_cut_count p_cut_count []
  a_merges : Addr
  d_merges : FuncData
  F_merges : Fun K "merges" "merges" s_merges a_merges d_merges
  m_merges : mg "merges" = some (.ref a_merges)
  k_merges : PySem.W.keepIn K (.ref a_merges) = true
  kb_merges : KBn K d_merges p_merges 4 ["same"] (fun us ws => us ++ ws) (fun us ws => us ++ ws)
  a__law_cell : Addr
  d__law_cell : FuncData
  F__law_cell : Fun K "_law_cell" "_law_cell" s__law_cell a__law_cell d__law_cell
  m__law_cell : mg "_law_cell" = some (.ref a__law_cell)
  k__law_cell : PySem.W.keepIn K (.ref a__law_cell) = true
  b__law_cell : Binds K d__law_cell p__law_cell []
  a__law_box : Addr
  d__law_box : FuncData
  F__law_box : Fun K "_law_box" "_law_box" s__law_box a__law_box d__law_box
  m__law_box : mg "_law_box" = some (.ref a__law_box)
  k__law_box : PySem.W.keepIn K (.ref a__law_box) = true
  b__law_box : Binds K d__law_box p__law_box []
  a__law_take : Addr
  d__law_take : FuncData
  F__law_take : Fun K "_law_take" "_law_take" s__law_take a__law_take d__law_take
  m__law_take : mg "_law_take" = some (.ref a__law_take)
  k__law_take : PySem.W.keepIn K (.ref a__law_take) = true
  b__law_take : Binds K d__law_take p__law_take []
  a__law_row : Addr
  d__law_row : FuncData
  F__law_row : Fun K "_law_row" "_law_row" s__law_row a__law_row d__law_row
  m__law_row : mg "_law_row" = some (.ref a__law_row)
  k__law_row : PySem.W.keepIn K (.ref a__law_row) = true
  b__law_row : Binds K d__law_row p__law_row []
  a__law_least : Addr
  d__law_least : FuncData
  F__law_least : Fun K "_law_least" "_law_least" s__law_least a__law_least d__law_least
  m__law_least : mg "_law_least" = some (.ref a__law_least)
  k__law_least : PySem.W.keepIn K (.ref a__law_least) = true
  b__law_least : Binds K d__law_least p__law_least []
  a__law_talks : Addr
  d__law_talks : FuncData
  F__law_talks : Fun K "_law_talks" "_law_talks" s__law_talks a__law_talks d__law_talks
  m__law_talks : mg "_law_talks" = some (.ref a__law_talks)
  k__law_talks : PySem.W.keepIn K (.ref a__law_talks) = true
  b__law_talks : Binds K d__law_talks p__law_talks []
  a__law_choose : Addr
  d__law_choose : FuncData
  F__law_choose : Fun K "_law_choose" "_law_choose" s__law_choose a__law_choose d__law_choose
  m__law_choose : mg "_law_choose" = some (.ref a__law_choose)
  k__law_choose : PySem.W.keepIn K (.ref a__law_choose) = true
  b__law_choose : Binds K d__law_choose p__law_choose []
  a__law_formula : Addr
  d__law_formula : FuncData
  F__law_formula : Fun K "_law_formula" "_law_formula" s__law_formula a__law_formula d__law_formula
  m__law_formula : mg "_law_formula" = some (.ref a__law_formula)
  k__law_formula : PySem.W.keepIn K (.ref a__law_formula) = true
  b__law_formula : Binds K d__law_formula p__law_formula []
  a__law_is_number : Addr
  d__law_is_number : FuncData
  F__law_is_number : Fun K "_law_is_number" "_law_is_number" s__law_is_number a__law_is_number d__law_is_number
  m__law_is_number : mg "_law_is_number" = some (.ref a__law_is_number)
  k__law_is_number : PySem.W.keepIn K (.ref a__law_is_number) = true
  b__law_is_number : Binds K d__law_is_number p__law_is_number []
  a__law_sum : Addr
  d__law_sum : FuncData
  F__law_sum : Fun K "_law_sum" "_law_sum" s__law_sum a__law_sum d__law_sum
  m__law_sum : mg "_law_sum" = some (.ref a__law_sum)
  k__law_sum : PySem.W.keepIn K (.ref a__law_sum) = true
  b__law_sum : Binds K d__law_sum p__law_sum []
  a__law_rows_merged : Addr
  d__law_rows_merged : FuncData
  F__law_rows_merged : Fun K "_law_rows_merged" "_law_rows_merged" s__law_rows_merged a__law_rows_merged d__law_rows_merged
  m__law_rows_merged : mg "_law_rows_merged" = some (.ref a__law_rows_merged)
  k__law_rows_merged : PySem.W.keepIn K (.ref a__law_rows_merged) = true
  b__law_rows_merged : Binds K d__law_rows_merged p__law_rows_merged []
  a__law_any_numbers : Addr
  d__law_any_numbers : FuncData
  F__law_any_numbers : Fun K "_law_any_numbers" "_law_any_numbers" s__law_any_numbers a__law_any_numbers d__law_any_numbers
  m__law_any_numbers : mg "_law_any_numbers" = some (.ref a__law_any_numbers)
  k__law_any_numbers : PySem.W.keepIn K (.ref a__law_any_numbers) = true
  b__law_any_numbers : Binds K d__law_any_numbers p__law_any_numbers []
  a__law_wrong_number : Addr
  d__law_wrong_number : FuncData
  F__law_wrong_number : Fun K "_law_wrong_number" "_law_wrong_number" s__law_wrong_number a__law_wrong_number d__law_wrong_number
  m__law_wrong_number : mg "_law_wrong_number" = some (.ref a__law_wrong_number)
  k__law_wrong_number : PySem.W.keepIn K (.ref a__law_wrong_number) = true
  b__law_wrong_number : Binds K d__law_wrong_number p__law_wrong_number []
  a__law_refusal : Addr
  d__law_refusal : FuncData
  F__law_refusal : Fun K "_law_refusal" "_law_refusal" s__law_refusal a__law_refusal d__law_refusal
  m__law_refusal : mg "_law_refusal" = some (.ref a__law_refusal)
  k__law_refusal : PySem.W.keepIn K (.ref a__law_refusal) = true
  b__law_refusal : Binds K d__law_refusal p__law_refusal []
  a__law_same : Addr
  d__law_same : FuncData
  F__law_same : Fun K "_law_same" "_law_same" s__law_same a__law_same d__law_same
  m__law_same : mg "_law_same" = some (.ref a__law_same)
  k__law_same : PySem.W.keepIn K (.ref a__law_same) = true
  b__law_same : Binds K d__law_same p__law_same []
  a__law_refused : Addr
  d__law_refused : FuncData
  F__law_refused : Fun K "_law_refused" "_law_refused" s__law_refused a__law_refused d__law_refused
  m__law_refused : mg "_law_refused" = some (.ref a__law_refused)
  k__law_refused : PySem.W.keepIn K (.ref a__law_refused) = true
  b__law_refused : Binds K d__law_refused p__law_refused []
  m_isinstance : mg "isinstance" = none
  m_int : mg "int" = none
  m_bool : mg "bool" = none
  m_str : mg "str" = none
  m_all : mg "all" = none
  m_len : mg "len" = none
  m_abs : mg "abs" = none
  m_sum : mg "sum" = none
  m_range : mg "range" = none
  m_ValueError : mg "ValueError" = none
  m_list : mg "list" = none
  a_InvalidNumber : Addr
  o_InvalidNumber : OexC K a_InvalidNumber
  i_InvalidNumber : PySem.W.findIn K (.ref a_InvalidNumber) "__init__" = some (some (.ref a_InvalidNumber_init))
  t_InvalidNumber : PySem.W.typeIn K (.ref a_InvalidNumber_init) = some (.type "function")
  n_InvalidNumber : PySem.W.findIn K (.ref a_InvalidNumber) "number" = some none
  x_InvalidNumber : XfC K a_InvalidNumber
  e_InvalidNumber : ExcC K a_InvalidNumber
  m_InvalidNumber : mg "InvalidNumber" = some (.ref a_InvalidNumber)
  q_InvalidNumber : PySem.W.kitOne K (.ref a_InvalidNumber) (.ref a_InvalidNumber) = some true
  q_ValueError : PySem.W.kitOne K (.ref a_InvalidNumber) (.type "ValueError") = some true
  a_CacheError : Addr
  m_CacheError : mg "CacheError" = some (.ref a_CacheError)
  x_CacheError : PySem.W.exmOne K (.ref a_InvalidNumber) (.ref a_CacheError) = some true
  m_comb : mg "comb" = some (.builtin "math.comb")
  a_InvalidRow : Addr
  m_InvalidRow : mg "InvalidRow" = some (.ref a_InvalidRow)
  q_InvalidRow : PySem.W.kitOne K (.ref a_InvalidNumber) (.ref a_InvalidRow) = some false
  a_InvalidFlags : Addr
  m_InvalidFlags : mg "InvalidFlags" = some (.ref a_InvalidFlags)
  q_InvalidFlags : PySem.W.kitOne K (.ref a_InvalidNumber) (.ref a_InvalidFlags) = some false
  a_InvalidLine : Addr
  m_InvalidLine : mg "InvalidLine" = some (.ref a_InvalidLine)
  q_InvalidLine : PySem.W.kitOne K (.ref a_InvalidNumber) (.ref a_InvalidLine) = some false
  a_InvalidSlot : Addr
  m_InvalidSlot : mg "InvalidSlot" = some (.ref a_InvalidSlot)
  q_InvalidSlot : PySem.W.kitOne K (.ref a_InvalidNumber) (.ref a_InvalidSlot) = some false
  a_InvalidText : Addr
  m_InvalidText : mg "InvalidText" = some (.ref a_InvalidText)
  q_InvalidText : PySem.W.kitOne K (.ref a_InvalidNumber) (.ref a_InvalidText) = some false
  a_Refused : Addr
  m_Refused : mg "Refused" = some (.ref a_Refused)
  q_Refused : PySem.W.kitOne K (.ref a_InvalidNumber) (.ref a_Refused) = some false
  a_TooMany : Addr
  m_TooMany : mg "TooMany" = some (.ref a_TooMany)
  q_TooMany : PySem.W.kitOne K (.ref a_InvalidNumber) (.ref a_TooMany) = some false
end K11

namespace K11
open PySem PySem.W PySem.Builtin.Math
theorem fp_up (n : Int) : ∀ k : Nat, fallingProduct (n + 1) (k + 1) = (n + 1) * fallingProduct n k
  | 0 => by rw [mc_fp_one, mc_fp_zero]; omega
  | k + 1 => by
    rw [mc_fp_succ (n + 1) (k + 1), fp_up n k, mc_fp_succ n k, Int.mul_assoc]
    congr 2
    omega
theorem fp_ch (n : Nat) : ∀ k : Nat, k ≤ n → fallingProduct (n : Int) k = (ch n k : Int) * fallingProduct (k : Int) k
  | 0, _ => by rw [mc_fp_zero, mc_fp_zero, ch_zero]; rfl
  | k + 1, h => by
    have st := ch_step n k
    have up := fp_up (k : Int) k
    have c1 : (((k + 1 : Nat)) : Int) = (k : Int) + 1 := by omega
    have st' : (ch n (k + 1) : Int) * ((k : Int) + 1) = (ch n k : Int) * ((n : Int) - k) := by
      have := congrArg (fun z : Nat => (z : Int)) st
      simp only [Int.natCast_mul] at this
      rw [c1, show ((n - k : Nat) : Int) = (n : Int) - k by omega] at this
      exact this
    rw [mc_fp_succ, fp_ch n k (by omega), c1, up, ← Int.mul_assoc, st', Int.mul_assoc, Int.mul_assoc, Int.mul_comm (fallingProduct _ _)]
theorem comb_chI {a b : Int} (h0 : 0 ≤ b) (h : b ≤ a) : mcComb a b = chI a b := by
  obtain ⟨k, rfl⟩ := Int.eq_ofNat_of_zero_le h0
  obtain ⟨n, rfl⟩ := Int.eq_ofNat_of_zero_le (show 0 ≤ a by omega)
  have hk : k ≤ n := by omega
  have key : ∀ m : Nat, m ≤ n → fallingProduct (n : Int) m / fallingProduct (m : Int) m = (ch n m : Int) := fun m hm => by
    have p := mc_fp_pos (n := (m : Int)) m (by omega)
    rw [fp_ch n m hm]
    exact Int.mul_ediv_cancel _ (by omega)
  rw [chI_in]
  by_cases hm : (k : Int) ≤ (n : Int) - k
  · rw [mcComb_at (a := (n : Int)) (b := (k : Int)) (m := (k : Int)) h0 h (by omega)]
    exact key k hk
  · rw [mcComb_at (a := (n : Int)) (b := (k : Int)) (m := ((n - k : Nat) : Int)) h0 h (by omega)]
    have := key (n - k) (by omega)
    rw [ch_sym hk] at this
    exact this
end K11
namespace L2
open PySem PySem.Spec PyProof.Rows
/-- comb(a, b) -/
def rComb : List V → Hp → VK → Prop := fun vs H Q => ∃ a b : Int, vs = [.int a, .int b] ∧ 0 ≤ a ∧ 0 ≤ b ∧ a ≤ 18000 ∧ Q (.int (PySem.W.mcComb a b)) H
theorem cr_comb {X : Cx} : CallR X (.builtin "math.comb") rComb := by
  intro pn st sg Hh vl ul Qw I r h
  obtain ⟨a, b, rfl, h1, h2, h3, q⟩ := h
  obtain ⟨t, u, rfl⟩ := Vals.int2 r
  exact PySem.W.mc_comb h1 h2 (by omega) (.inr h3) fun _ => ⟨.int _, Hh, I.tok _, ⟨_, rfl⟩, q⟩
end L2

/-! ### texts: one sign counted -/
namespace L2
open PySem PySem.Spec PyProof.Rows PySem.StrLaws
theorem cnt_fold (x : Str) (c limit : Nat) : ∀ (n a : Nat) (st : Array Nat × Nat), st.2 ≤ a → st.1.size + n ≤ limit →
    (forIn (List.range' a n) st (occBody x ⟨#[c]⟩ x.length limit)).run.fst.size = st.1.size + ((List.range' a n).filter fun i => decide (x.cps.toList[i]? = some c)).length
  | 0, a, st, _, _ => by simp
  | n + 1, a, st, h1, h2 => by
    rw [List.range'_succ, List.forIn_cons]
    by_cases hc : x.cps.toList[a]? = some c
    · have q := (subAt_one x c a).mpr hc
      have e : occBody x ⟨#[c]⟩ x.length limit a st = pure (ForInStep.yield (st.fst.push a, a + 1)) := if_pos ⟨⟨⟨by omega, h1⟩, q.1⟩, q.2⟩
      rw [e, List.filter_cons, if_pos (decide_eq_true hc), List.length_cons]
      have ih := cnt_fold x c limit n (a + 1) (st.fst.push a, a + 1) (Nat.le_refl _) (by simp only [Array.size_push]; omega)
      simp only [Array.size_push] at ih
      refine Eq.trans ih ?_
      omega
    · have e : occBody x ⟨#[c]⟩ x.length limit a st = pure (ForInStep.yield (st.fst, st.snd)) := if_neg fun z => hc ((subAt_one x c a).mp ⟨z.1.2, z.2⟩)
      rw [e, List.filter_cons, if_neg (by simpa using hc)]
      exact cnt_fold x c limit n (a + 1) st (by omega) (by omega)
theorem cnt_range (xs : List Nat) (c : Nat) : ∀ n : Nat, ((List.range n).filter fun i => decide (xs[i]? = some c)).length = (xs.take n).count c
  | 0 => by simp
  | n + 1 => by
    rw [List.range_succ, List.filter_append, List.length_append, cnt_range xs c n, List.take_add_one, List.count_append]
    congr 1
    cases h : xs[n]? with
    | none => simp [h]
    | some y =>
      by_cases e : y = c
      · subst e
        simp [h]
      · simp [h, e]
theorem count_one (x : Str) (c : Nat) : Txt.count x ⟨#[c]⟩ = ((x.cps.toList.count c : Nat) : Int) := by
  unfold Txt.count
  rw [occ_eq, Array.length_toList, cnt_fold x c (x.length + 1) (x.length + 1 - 0) 0 (#[], 0) (Nat.le_refl _) (by simp)]
  have e := cnt_range x.cps.toList c (x.length + 1)
  rw [← List.range_eq_range', Nat.sub_zero, e, List.take_of_length_le (by rw [Array.length_toList]; show x.length ≤ _; omega)]
  simp
end L2

namespace K11
open PySem PySem.Spec PyProof.Rows L2
/-- the text of a row -/
def rowC (b : Bool) : Nat := if b = true then 108 else 104
def rowS (bs : List Bool) : Str := ⟨(bs.map rowC).toArray⟩
theorem rowS_len (bs : List Bool) : (rowS bs).length = bs.length := by
  show (bs.map rowC).toArray.size = _
  rw [List.size_toArray, List.length_map]
theorem rowS_list (bs : List Bool) : (rowS bs).cps.toList = bs.map rowC := by simp [rowS]
theorem rowS_nil : rowS [] = ("" : Str) := by decide +kernel
theorem rowS_add (bs : List Bool) (b : Bool) : rowS bs ++ (if b = true then ("l" : Str) else ("h" : Str)) = rowS (bs ++ [b]) := by
  have e : (if b = true then ("l" : Str) else ("h" : Str)) = ⟨#[rowC b]⟩ := by cases b <;> decide +kernel
  rw [e]
  show (⟨(bs.map rowC).toArray ++ #[rowC b]⟩ : Str) = ⟨((bs ++ [b]).map rowC).toArray⟩
  rw [List.map_append]
  simp
theorem rowC_inj {a b : Bool} : rowC a = rowC b → a = b := by cases a <;> cases b <;> decide
theorem row_count (bs : List Bool) : Txt.count (rowS bs) ("l" : Str) = ((bs.count true : Nat) : Int) := by
  rw [show ("l" : Str) = ⟨#[108]⟩ by decide +kernel, count_one, rowS_list]
  congr 1
  induction bs with
  | nil => rfl
  | cons b r ih =>
    rw [List.map_cons, List.count_cons, List.count_cons, ih]
    cases b <;> rfl
theorem cnt_two : ∀ r : List Bool, r.count true + r.count false = r.length
  | [] => rfl
  | c :: r => by
    have ih := cnt_two r
    rw [List.count_cons, List.count_cons, List.length_cons]
    cases c <;> simp <;> omega
theorem least_eq (bs : List Bool) : least bs = (bs.count true : Int) + (if bs[0]? = some false then 1 else 0) := by
  unfold least hs
  cases bs with
  | nil => rfl
  | cons b r =>
    rw [List.take_length, List.drop_one, List.tail_cons]
    have h := cnt_two r
    rw [List.length_cons, List.count_cons]
    cases b <;> simp <;> omega
theorem row_first (bs : List Bool) : cutS (rowS bs) none (some 1) = ("h" : Str) ↔ bs[0]? = some false := by
  have e : cutS (rowS bs) none (some 1) = ⟨((bs.map rowC).take 1).toArray⟩ := by
    unfold cutS
    rw [HT.sIx_none, rowS_list, List.drop_zero, show (some (1 : Int)) = some ((1 : Nat) : Int) from rfl, HT.sIx_nat, rowS_len]
    cases bs with
    | nil => rfl
    | cons b r => rfl
  rw [e, show ("h" : Str) = ⟨#[104]⟩ by decide +kernel]
  cases bs with
  | nil => simp
  | cons b r => cases b <;> simp [rowC]
theorem row_at {bs : List Bool} {i : Nat} {b : Bool} (h : bs[i]? = some b) : atI (rowS bs).cps.toList (i : Int) = some (rowC b) := by
  refine atI_nat ?_
  rw [rowS_list, List.getElem?_map, h]
  rfl
theorem sign_h (b : Bool) : decide (V.str ⟨#[rowC b]⟩ = V.str ("h" : Str)) = !b := by cases b <;> decide +kernel
end K11

namespace K11
open PySem PySem.Spec PyProof.Rows L2
local macro_rules | `(tactic| walk_at "rd") => `(tactic| repeat (first
  | refine ⟨_, rfl, ?_⟩
  | refine ⟨_, _, rfl, rfl, ?_⟩
  | refine ⟨_, _, _, _, rfl, rfl, SqL.lst (by first | assumption | exact upd_same), rfl, ?_⟩
  | refine ⟨_, _, _, _, rfl, rfl, (by first | assumption | exact upd_same), rfl, ?_⟩
  | refine Or.inl ⟨_, rfl, ?_⟩
  | refine ⟨_, _, rfl, (by assumption), ?_⟩
  | refine ⟨by first | exact ⟨by decide, by decide, by decide⟩ | exact wide_mul (a := 64) (b := 64) (by omega) (by omega) (by decide) (by decide) (by decide) | exact wide_div (b := 64) (by omega) (by omega) (by decide) (by decide) | (show (0 : Int) < _; omega), ?_⟩))
section
variable {P : Program} {w : World} {K : PySem.W.Frag} {mg : Str → Option Value} {base : Heap}
theorem ok__law_cell (T : TX K mg) : FnOk P w K mg base CX0 1 T.a__law_cell T.d__law_cell p__law_cell (spCellB K) := by
  refine T.F__law_cell.ok sc__law_cell (fun vs H Q E h => ?_) (fun cdv A outer s H vs Q E hr h => ?_)
  · obtain ⟨a, ns, k, rfl, _⟩ := h
    rfl
  · obtain ⟨a, ns, k, rfl, hk0, hS, q⟩ := h
    refine ⟨_, (pss_cons (ps_if (pt_cmpR op_lt (pv 1) (pe_callB call_len_seq (by rfl) T.m_len PySem.boot_len (pa_cons (pv 0) pa_nil)) (nomark _))
      (pss_one (ps_ret (pe_callB call_abs (by rfl) T.m_abs (by decide +kernel) (pa_cons (pe_ix ix_list (pv 0) (pv 1) (fun _ _ => rfl)) pa_nil))))
      pss_nil)
      (pss_one (ps_ret (pe_op op_add (pe_op op_mulW pe_int (pe_op op_add (pv 1) pe_int)) (pe_op op_mod (pe_callTy call_int1 (by rfl) T.m_int (by decide +kernel) (pa_cons (pe_callB (cr_sum rfl) (by rfl) T.m_sum (by decide +kernel) (pa_cons (pv 0) pa_nil)) pa_nil)) pe_int))))), ?_⟩
    refine ⟨_, rfl, _, rfl, a, ns.map V.int, rfl, .inl hS, _, _, rfl, rfl, _, rfl, ite2 (fun e => ?_) (fun e => ?_)⟩
    · have hk : k < ns.length := by
        have := of_decide_eq_true e
        rw [List.length_map] at this
        omega
      refine ⟨_, rfl, _, rfl, a, ns.map V.int, (k : Int), .int ns[k], rfl, rfl, hS, atI_nat ?_, ns[k], rfl, ?_⟩
      · rw [List.getElem?_map, List.getElem?_eq_getElem hk]
        rfl
      · refine q _ ?_
        split <;> omega
    · walk_at "rd"
      exact q _ (by omega)
theorem ok__law_box (T : TX K mg) : FnOk P w K mg base CX0 2 T.a__law_box T.d__law_box p__law_box (spBox K) := by
  have G__law_cell := ok__law_cell (P := P) (w := w) (base := base) T
  refine T.F__law_box.ok sc__law_box (fun vs H Q E h => ?_) (fun cdv A outer s H vs Q E hr h => ?_)
  · obtain ⟨a, ns, k, rfl, _⟩ := h
    rfl
  · obtain ⟨a, ns, k, rfl, hk0, hS, q⟩ := h
    refine ⟨_, (pss_one (ps_ret (pe_lst (pa_cons (pe_call G__law_cell (hr.mono (by decide)) (by rfl) T.m__law_cell T.k__law_cell T.b__law_cell .nil pass0 (pa_cons (pv 0) (pa_cons (pv 1) pa_nil))) (pa_cons pe_int pa_nil))))), ?_⟩
    refine ⟨_, rfl, _, rfl, a, ns, k, rfl, hk0, hS, fun i hi => ?_⟩
    refine ⟨by show 2 ≤ sizeLine; decide, fun p np => ?_⟩
    exact q p _ np (same_new np) ⟨i, 0, upd_same, hi, Int.le_refl 0, Int.le_refl 0⟩
theorem digit_end {x : Int} {size : Nat} (hs : 0 < size) {R : Int → Prop} (h : ∀ d : Nat, d < size → R (d : Int)) : R (x % (size : Int)) := by
  obtain ⟨d, hd⟩ := nat_of (show (0 : Int) ≤ x % size from Int.emod_nonneg _ (by omega))
  have hl : x % size < size := Int.emod_lt_of_pos _ (by omega)
  rw [hd] at hl ⊢
  exact h d (by omega)
theorem ok__law_take (T : TX K mg) : FnOk P w K mg base CX0 1 T.a__law_take T.d__law_take p__law_take spTake := by
  refine T.F__law_take.ok sc__law_take (fun vs H Q E h => ?_) (fun cdv A outer s H vs Q E hr h => ?_)
  · obtain ⟨p, size, n, rfl, _⟩ := h
    rfl
  · obtain ⟨p, size, n, rfl, ⟨b, c, e, h1, h2, h3⟩, hn, hs, hs2, q⟩ := h
    refine ⟨_, (pss_cons (ps_if (pt_cmpR op_ge (pe_ix ix_list (pv 0) pe_int (fun _ _ => rfl)) (pe_op op_pow pe_int pe_int) (nomark _))
      (pss_cons (ps_set (i := 2) sc__law_take.nd rfl (Or.inl rfl) (pe_op op_mod (pe_callTy call_int1 (by rfl) T.m_int (by decide +kernel) (pa_cons (pe_ix ix_list (pv 0) pe_int (fun _ _ => rfl)) pa_nil)) (pv 1)))
      (pss_cons (ps_asg (pe_op op_fdivW (pe_ix ix_list (pv 0) pe_int (fun _ _ => rfl)) (pv 1)) (pg_sub (pv 0) pe_int set_list))
      (pss_one (ps_ret (pv 2)))))
      pss_nil)
      (pss_cons (ps_asg (pe_op op_add (pe_ix ix_list (pv 0) pe_int (fun _ _ => rfl)) pe_int) (pg_sub (pv 0) pe_int set_list))
      (pss_cons (ps_set (i := 3) sc__law_take.nd rfl (Or.inl rfl) (pe_op op_mod (pe_callTy call_int1 (by rfl) T.m_int (by decide +kernel) (pa_cons (pe_op op_add (pe_op op_mulW (pe_ix ix_list (pv 0) pe_int (fun _ _ => rfl)) pe_int) (pe_op op_mulW (pe_ix ix_list (pv 0) pe_int (fun _ _ => rfl)) pe_int)) pa_nil)) pe_int))
      (pss_cons (ps_set (i := 3) sc__law_take.nd rfl (Or.inl rfl) (pe_op op_mod (pe_callTy call_int1 (by rfl) T.m_int (by decide +kernel) (pa_cons (pe_op op_add (pe_op op_add (pe_op op_mulW (pv 3) (pv 3)) (pe_op op_fdivW (pv 3) pe_int)) (pe_ix ix_list (pv 0) pe_int (fun _ _ => rfl))) pa_nil)) pe_int))
      (pss_one (ps_ret (pe_op op_mod (pe_op op_fdivW (pe_op op_mod (pe_callTy call_int1 (by rfl) T.m_int (by decide +kernel) (pa_cons (pe_op op_add (pe_op op_mulW (pv 3) pe_int) (pe_op op_fdivW (pv 3) pe_int)) pa_nil)) pe_int) pe_int) (pv 1)))))))), ?_⟩
    walk_at "rd"
    refine iteB (fun e => ?_) (fun e => ?_)
    · have hb : (10 : Int) ^ (18 : Int).toNat ≤ b := of_decide_eq_true e
      walk_at "rd"
      refine digit_end (R := fun i => Q (.int i) _) hs ?_
      intro d hd
      exact q d _ hd But.upd ⟨b / size, c, upd_same, Int.ediv_nonneg h1 (by omega), h2, by omega⟩
    · have hb : b < 1000000000000000000 := by
        have z : ¬ ((10 : Int) ^ (18 : Int).toNat ≤ b) := of_decide_eq_false e
        rw [show (10 : Int) ^ (18 : Int).toNat = 1000000000000000000 by decide] at z
        omega
      walk_at "rd"
      refine digit_end (R := fun i => Q (.int i) _) hs ?_
      intro d hd
      exact q d _ hd But.upd ⟨b, c + 1, upd_same, h1, by omega, by omega⟩
end
end K11

namespace L2
open PySem PySem.Spec PyProof.Rows
/-! ### numbers that are checked -/
def isBl : V → Bool
  | .bl _ => true
  | _ => false
def isIn : V → Bool
  | .int _ => true
  | _ => false
/-- a value that a caller may pass as a number -/
inductive Kinded (K : PySem.W.Frag) (H : Hp) : V → Prop where
  | non : Kinded K H .non
  | bl (b : Bool) : Kinded K H (.bl b)
  | int (i : Int) : Kinded K H (.int i)
  | str (z : Str) : Kinded K H (.str z)
  | lst {a : Addr} {xs : List V} (e : H a = some (.lst xs)) : Kinded K H (.ref a)
  | tup {a : Addr} {xs : List V} (e : H a = some (.tup xs)) : Kinded K H (.ref a)
theorem Kinded.same {K : PySem.W.Frag} {H H' : Hp} {v : V} (s : Same H H') (k : Kinded K H v) : Kinded K H' v := by
  cases k with
  | non => exact .non
  | bl b => exact .bl b
  | int i => exact .int i
  | str z => exact .str z
  | lst e => exact .lst (s _ _ e)
  | tup e => exact .tup (s _ _ e)
theorem Kinded.is_bool {K : PySem.W.Frag} {H : Hp} {v : V} (k : Kinded K H v) : ∃ t, TyX K H v t ∧ PySem.W.kitOne K t (.type "bool") = some (isBl v) := by
  cases k with
  | non => exact ⟨_, .base .non, kit_ty (show kitB "NoneType" "bool" = some false by decide +kernel)⟩
  | bl b => exact ⟨_, .base (.bl b), kit_ty (show kitB "bool" "bool" = some true by decide +kernel)⟩
  | int i => exact ⟨_, .base (.int i), kit_ty (show kitB "int" "bool" = some false by decide +kernel)⟩
  | str z => exact ⟨_, .base (.str z), kit_ty (show kitB "str" "bool" = some false by decide +kernel)⟩
  | lst e => exact ⟨_, .base (.lst e), kit_ty (show kitB "list" "bool" = some false by decide +kernel)⟩
  | tup e => exact ⟨_, .base (.tup e), kit_ty (show kitB "tuple" "bool" = some false by decide +kernel)⟩
theorem Kinded.is_int {K : PySem.W.Frag} {H : Hp} {v : V} (k : Kinded K H v) : ∃ t, TyX K H v t ∧ PySem.W.kitOne K t (.type "int") = some (isIn v || isBl v) := by
  cases k with
  | non => exact ⟨_, .base .non, kit_ty (show kitB "NoneType" "int" = some false by decide +kernel)⟩
  | bl b => exact ⟨_, .base (.bl b), kit_ty (show kitB "bool" "int" = some true by decide +kernel)⟩
  | int i => exact ⟨_, .base (.int i), kit_ty (show kitB "int" "int" = some true by decide +kernel)⟩
  | str z => exact ⟨_, .base (.str z), kit_ty (show kitB "str" "int" = some false by decide +kernel)⟩
  | lst e => exact ⟨_, .base (.lst e), kit_ty (show kitB "list" "int" = some false by decide +kernel)⟩
  | tup e => exact ⟨_, .base (.tup e), kit_ty (show kitB "tuple" "int" = some false by decide +kernel)⟩
/-- a number from low on -/
def isNum (v : V) (low : Int) : Bool := match v with
  | .int i => decide (low ≤ i)
  | _ => false
def spIsWhole (K : PySem.W.Frag) : Sp := fun vs H Q _ => ∃ v : V, vs = [v] ∧ Kinded K H v ∧ Q (.bl (isIn v)) H
def spIsNumber (K : PySem.W.Frag) : Sp := fun vs H Q _ => ∃ (v : V) (low : Int), vs = [v, .int low, .non] ∧ Kinded K H v ∧ Q (.bl (isNum v low)) H
/-- a fresh error's dict -/
def Raised (E : XK) (C : Addr) (f : Str) (v : V) (H : Hp) : Prop := ∀ d H', H d = none → Same H H' → H' d = some (.xd [(f, v)]) → E (.ref C) (some d) H'
theorem Raised.same {E : XK} {C : Addr} {f : Str} {v : V} {H H1 : Hp} (s : Same H H1) (r : Raised E C f v H) : Raised E C f v H1 := fun d H' n s' e => r d H' (s.free n) (s.trans s') e
def spCheckNumber (K : PySem.W.Frag) (C : Addr) : Sp := fun vs H Q E => ∃ (v : V) (low : Int), vs = [v, .int low, .non] ∧ Kinded K H v ∧ (isNum v low = true → Q .non H) ∧ (isNum v low = false → Raised E C "number" v H)
/-- an error's own making, one field -/
def spInit1 (K : PySem.W.Frag) (C : Addr) (f : Str) : Sp := fun vs H Q _ => ∃ (a : Addr) (v : V), vs = [.ref a, v] ∧ OexC K C ∧ PySem.W.findIn K (.ref C) f = some none ∧ H a = some (exo a C none) ∧
  ∀ dx, H dx = none → dx ≠ a → Q .non (upd (upd H dx (exd dx [(f, v)])) a (exo a C (some dx)))
/-- what C(v) asks of its making -/
theorem mk1 {K : PySem.W.Frag} {C : Addr} {f : Str} {v : V} {H : Hp} {Q : XK} {E : XK} (o : OexC K C) (n : PySem.W.findIn K (.ref C) f = some none) (q : Raised Q C f v H) :
    [v].length ≤ 1000 ∧ ∀ a, H a = none → spInit1 K C f (.ref a :: ([v] ++ [])) (upd H a (exo a C none))
      (fun u H2 => u = .non ∧ ∃ (d : Addr) (fs : List (Str × V)), H2 a = some (exo a C (some d)) ∧ H2 d = some (exd d fs) ∧ H d = none ∧ Q (.ref C) (some d) (upd (L2.del H2 a) d (.xd fs))) E := by
  refine ⟨by show 1 ≤ 1000; decide, fun a na => ⟨a, v, rfl, o, n, upd_same, fun dx nd ne => ?_⟩⟩
  have nd0 : H dx = none := by rw [upd_ne ne] at nd; exact nd
  refine ⟨rfl, dx, _, upd_same, (upd_ne ne).trans upd_same, nd0, q dx _ nd0 (fun b ob e => ?_) upd_same⟩
  have n1 := ne_of_none e nd0
  have n2 := ne_of_none e na
  rw [upd_ne n1, del_ne n2, upd_ne n2, upd_ne n1, upd_ne n2]
  exact e
end L2
namespace K11
open PySem PySem.Spec PyProof.Rows L2
local macro_rules | `(tactic| walk_at "rd") => `(tactic| repeat (first
  | refine ⟨_, rfl, ?_⟩
  | refine ⟨_, _, rfl, rfl, ?_⟩
  | refine ⟨_, _, _, _, rfl, rfl, SqL.lst (by first | assumption | exact upd_same), rfl, ?_⟩
  | refine ⟨_, _, _, _, rfl, rfl, (by first | assumption | exact upd_same), rfl, ?_⟩
  | refine Or.inl ⟨_, rfl, ?_⟩
  | refine ⟨_, _, rfl, (by assumption), ?_⟩
  | refine ⟨by first | exact ⟨by decide, by decide, by decide⟩ | exact wide_mul (a := 64) (b := 64) (by omega) (by omega) (by decide) (by decide) (by decide) | exact wide_div (b := 64) (by omega) (by omega) (by decide) (by decide) | (show (0 : Int) < _; omega), ?_⟩))

section
variable {P : Program} {w : World} {K : PySem.W.Frag} {mg : Str → Option Value} {base : Heap}
theorem ok_InvalidNumber_init (T : TX K mg) : FnOk P w K mg base CX0 1 T.a_InvalidNumber_init T.d_InvalidNumber_init p_InvalidNumber_init (spInit1 K T.a_InvalidNumber "number") := by
  refine T.F_InvalidNumber_init.ok sc_InvalidNumber_init (fun vs H Q E h => ?_) (fun cdv A outer s H vs Q E hr h => ?_)
  · obtain ⟨a, v, rfl, _⟩ := h
    rfl
  · obtain ⟨a, v, rfl, o, n, e, q⟩ := h
    exact ⟨_, (pss_one (ps_ost (pv 0) (pv 1))), _, rfl, _, rfl, a, _, rfl, o, n, .inl ⟨e, q⟩⟩
theorem ok_is_whole (T : TX K mg) : FnOk P w K mg base CX0 1 T.a_is_whole T.d_is_whole p_is_whole (spIsWhole K) := by
  refine T.F_is_whole.ok sc_is_whole (fun vs H Q E h => ?_) (fun cdv A outer s H vs Q E hr h => ?_)
  · obtain ⟨v, rfl, _⟩ := h
    rfl
  · obtain ⟨v, rfl, k, q⟩ := h
    obtain ⟨t1, ty1, k1⟩ := k.is_bool
    obtain ⟨t2, ty2, k2⟩ := k.is_int
    refine ⟨_, (pss_one (ps_ret (pe_and (pe_callB call_isi (by rfl) T.m_isinstance (by decide +kernel) (pa_cons (pv 0) (pa_cons (pe_bltn (v := .ty "int") (by rfl) T.m_int (by decide +kernel) rfl) pa_nil))) (pe_one (pe_not (pe_callB call_isi (by rfl) T.m_isinstance (by decide +kernel) (pa_cons (pv 0) (pa_cons (pe_bltn (v := .ty "bool") (by rfl) T.m_bool (by decide +kernel) rfl) pa_nil)))))))), ?_⟩
    refine ⟨_, rfl, v, .ty "int", t2, _, _, rfl, .ty _, ty2, k2, _, rfl, ?_⟩
    refine iteB (fun e1 => ?_) (fun e1 => ?_)
    · refine ⟨_, rfl, v, .ty "bool", t1, _, _, rfl, .ty _, ty1, k1, _, rfl, ?_⟩
      have e2 : isIn v = !isBl v := by
        cases v <;> first | rfl | cases e1
      rw [e2] at q
      exact q
    · have e2 : isIn v = false := by
        cases v <;> first | rfl | cases e1
      rw [e2] at q
      exact q
theorem ok_is_number (T : TX K mg) : FnOk P w K mg base CX0 2 T.a_is_number T.d_is_number p_is_number (spIsNumber K) := by
  have G_is_whole := ok_is_whole (P := P) (w := w) (base := base) T
  refine T.F_is_number.ok sc_is_number (fun vs H Q E h => ?_) (fun cdv A outer s H vs Q E hr h => ?_)
  · obtain ⟨v, low, rfl, _⟩ := h
    rfl
  · obtain ⟨v, low, rfl, k, q⟩ := h
    refine ⟨_, (pss_one (ps_ret (pe_and (pe_call G_is_whole (hr.mono (by decide)) (by rfl) T.m_is_whole T.k_is_whole T.b_is_whole .nil pass0 (pa_cons (pv 0) pa_nil)) (pe_and (pe_cmpR op_le (pv 1) (pv 0) (nomark _)) (pe_one (pe_or (pe_cmpR op_isN (pv 2) pe_non (nomark _)) (pe_one (pe_cmpR op_le (pv 0) (pv 2) (nomark _))))))))), ?_⟩
    refine ⟨_, rfl, v, rfl, k, _, rfl, ?_⟩
    refine iteB (fun e1 => ?_) (fun e1 => ?_)
    · obtain ⟨i, rfl⟩ : ∃ i, v = .int i := by
        cases v <;> first | exact ⟨_, rfl⟩ | cases e1
      refine ⟨_, rfl, _, rfl, _, _, rfl, rfl, _, rfl, ?_⟩
      refine iteB (fun e3 => ?_) (fun e3 => ?_)
      · have e4 : isNum (.int i) low = true := e3
        rw [e4] at q
        refine ⟨_, rfl, rfl, _, rfl, iteT ?_⟩
        exact q
      · have e4 : isNum (.int i) low = false := e3
        rw [e4] at q
        exact q
    · have e2 : isNum v low = false := by
        cases v <;> first | rfl | cases e1
      rw [e2] at q
      exact q
theorem ok_check_number (T : TX K mg) : FnOk P w K mg base (L2.CX P w) 3 T.a_check_number T.d_check_number p_check_number (spCheckNumber K T.a_InvalidNumber) := by
  have G_is_number := ok_is_number (P := P) (w := w) (base := base) T
  have G_InvalidNumber_init := ok_InvalidNumber_init (P := P) (w := w) (base := base) T
  refine T.F_check_number.okX sc_check_number (fun vs H Q E h => ?_) (fun cdv A outer s H vs Q E hr h => ?_)
  · obtain ⟨v, low, rfl, _⟩ := h
    rfl
  · obtain ⟨v, low, rfl, k, q1, q2⟩ := h
    refine ⟨_, (pss_one (ps_if (pt_not (pt_val (pe_call G_is_number (hr.mono (by decide)) (by rfl) T.m_is_number T.k_is_number T.b_is_number .nil pass0 (pa_cons (pv 0) (pa_cons (pv 1) (pa_cons (pv 2) pa_nil))))))
      (pss_one (ps_raise rfl (takes_of rfl rfl rfl rfl) (pmk_oex T.o_InvalidNumber T.i_InvalidNumber T.t_InvalidNumber G_InvalidNumber_init (hr.mono (by decide)) T.b_InvalidNumber_init .nil pass0 (by rfl) T.m_InvalidNumber (pa_cons (pv 0) pa_nil))))
      pss_nil)), ?_⟩
    refine ⟨_, rfl, _, rfl, _, rfl, v, low, rfl, k, _, rfl, ?_⟩
    refine iteB (fun e => ?_) (fun e => ?_)
    · exact ⟨_, rfl, mk1 T.o_InvalidNumber T.n_InvalidNumber (q2 (by cases h : isNum v low <;> simp_all))⟩
    · exact q1 (by cases h : isNum v low <;> simp_all)
end
end K11

namespace K11
open PySem PySem.Spec PyProof.Rows L2
local macro_rules | `(tactic| walk_at "rd") => `(tactic| repeat (first
  | refine ⟨_, rfl, ?_⟩
  | refine ⟨_, _, rfl, rfl, ?_⟩
  | refine ⟨_, _, _, _, rfl, rfl, SqL.lst (by first | assumption | exact upd_same), rfl, ?_⟩
  | refine ⟨_, _, _, _, rfl, rfl, (by first | assumption | exact upd_same), rfl, ?_⟩
  | refine Or.inl ⟨_, rfl, ?_⟩
  | refine ⟨_, _, rfl, (by assumption), ?_⟩
  | refine ⟨by first | exact ⟨by decide, by decide, by decide⟩ | exact wide_mul (a := 64) (b := 64) (by omega) (by omega) (by decide) (by decide) (by decide) | exact wide_div (b := 64) (by omega) (by omega) (by decide) (by decide) | (show (0 : Int) < _; omega), ?_⟩))

def intOf : V → Int
  | .int i => i
  | _ => 0
theorem isNum_int {v : V} {low : Int} (h : isNum v low = true) : ∃ i, v = .int i ∧ low ≤ i := by
  cases v <;> first | exact ⟨_, rfl, of_decide_eq_true h⟩ | cases h
def spChoose : Sp := fun vs H Q _ => ∃ n t : Int, vs = [.int n, .int t] ∧ n ≤ 18000 ∧ Q (.int (chI n t)) H
def spRowB : Sp := fun vs H Q _ => ∃ bs : List Bool, vs = [.str (rowS bs)] ∧ bs.length ≤ 1000 ∧ ∀ H', Same H H' → Q (.bl true) H'
def spMadeHl : Sp := fun vs H Q _ => ∃ bs : List Bool, vs = [.str (rowS bs), .str ("hl" : Str)] ∧ bs.length ≤ 1000 ∧ ∀ H', Same H H' → Q (.bl true) H'
def spCheckRow : Sp := fun vs H Q _ => ∃ bs : List Bool, vs = [.str (rowS bs)] ∧ bs.length ≤ 1000 ∧ ∀ H', Same H H' → Q .non H'
def spLeast : Sp := fun vs H Q _ => ∃ bs : List Bool, vs = [.str (rowS bs)] ∧ bs.length ≤ 1000 ∧ Q (.int (least bs)) H
def spCuts : Sp := fun vs H Q _ => ∃ (bs : List Bool) (n : Nat), vs = [.str (rowS bs), .int (n : Int)] ∧ bs.length ≤ 1000 ∧ ∀ H', Same H H' → Q (.int (cutsOf bs n)) H'
def spMergeCount : Sp := fun vs H Q _ => ∃ (l a ol oa : Int) (same : Bool), vs = [.int l, .int a, .int ol, .int oa, .bl same] ∧ (l ≤ 1000 ∧ ol ≤ 1000 ∧ 0 ≤ a ∧ 0 ≤ oa) ∧ Q (.int (mergesOf l a ol oa same)) H
def spMerges (K : PySem.W.Frag) (C : Addr) : Sp := fun vs H Q E => ∃ (v1 v2 v3 v4 : V) (same : Bool), vs = [v1, v2, v3, v4, .bl same] ∧ (Kinded K H v1 ∧ Kinded K H v2 ∧ Kinded K H v3 ∧ Kinded K H v4) ∧
  (∀ i, .int i ∈ [v1, v3] → i ≤ 1000) ∧
  (isNum v1 1 = false → Raised E C "number" v1 H) ∧ (isNum v1 1 = true → isNum v2 0 = false → Raised E C "number" v2 H) ∧ (isNum v1 1 = true → isNum v2 0 = true → isNum v3 0 = false → Raised E C "number" v3 H) ∧
  (isNum v1 1 = true → isNum v2 0 = true → isNum v3 0 = true → isNum v4 0 = false → Raised E C "number" v4 H) ∧
  (isNum v1 1 = true → isNum v2 0 = true → isNum v3 0 = true → isNum v4 0 = true → Q (.int (mergesOf (intOf v1) (intOf v2) (intOf v3) (intOf v4) same)) H)
section
variable {P : Program} {w : World} {K : PySem.W.Frag} {mg : Str → Option Value} {base : Heap}
theorem ok_choose (T : TX K mg) : FnOk P w K mg base CX0 1 T.a_choose T.d_choose p_choose spChoose := by
  refine T.F_choose.ok sc_choose (fun vs H Q E h => ?_) (fun cdv A outer s H vs Q E hr h => ?_)
  · obtain ⟨n, t, rfl, _⟩ := h
    rfl
  · obtain ⟨n, t, rfl, hn, q⟩ := h
    refine ⟨_, (pss_cons (ps_if (PW.pt (pw_or (pt_cmpR op_lt (pv 1) pe_int (nomark _)) (pw_or1 (pt_cmpR op_gt (pv 1) (pv 0) (nomark _)))))
      (pss_one (ps_ret pe_int))
      pss_nil)
      (pss_one (ps_ret (pe_callBfun cr_comb (by rfl) T.m_comb (pa_cons (pv 0) (pa_cons (pv 1) pa_nil)))))), ?_⟩
    walk_at "rd"
    refine iteB (fun e => ?_) (fun e => ?_)
    · refine iteT ?_
      rw [chI_out (.inl (of_decide_eq_true e))] at q
      exact q
    · have e1 : ¬ t < 0 := of_decide_eq_false e
      walk_at "rd"
      refine iteB (fun e => ?_) (fun e => ?_)
      · rw [chI_out (.inr (of_decide_eq_true e))] at q
        exact q
      · have e2 : ¬ n < t := of_decide_eq_false e
        rw [← comb_chI (by omega) (by omega)] at q
        refine ⟨_, rfl, _, rfl, n, t, rfl, by omega, by omega, hn, q⟩
theorem ok_block_count (T : TX K mg) : FnOk P w K mg base CX0 1 T.a_block_count T.d_block_count p_block_count spLeast := by
  refine T.F_block_count.ok sc_block_count (fun vs H Q E h => ?_) (fun cdv A outer s H vs Q E hr h => ?_)
  · obtain ⟨bs, rfl, _⟩ := h
    rfl
  · obtain ⟨bs, rfl, hl, q⟩ := h
    refine ⟨_, (pss_one (ps_ret (pe_op op_add (pe_bm PySem.F.plainAttrs_str PySem.F.slot_str_count PySem.F.type_str_count mt_count (pv 0) (pa_cons pe_str pa_nil)) (pe_ifExp (pt_cmpR op_eq (pe_slice sl_str (pv 0) po_none (po_some pe_int)) pe_str (nomark _)) pe_int pe_int)))), ?_⟩
    refine ⟨_, rfl, rfl, _, _, rfl, rfl, _, rfl, ?_⟩
    refine ⟨_, rfl, _, rfl, by rw [rowS_len]; exact Nat.le_of_lt (small1000 hl), rfl, _, rfl, ?_⟩
    rw [least_eq] at q
    refine iteB (fun e => ?_) (fun e => ?_)
    · have e1 := (row_first bs).mp (V.str.inj (of_decide_eq_true e))
      rw [if_pos e1] at q
      refine ⟨_, _, rfl, rfl, ?_⟩
      rw [row_count]
      exact q
    · have e1 : ¬ bs[0]? = some false := fun z => of_decide_eq_false e (congrArg V.str ((row_first bs).mpr z))
      rw [if_neg e1] at q
      refine ⟨_, _, rfl, rfl, ?_⟩
      rw [row_count]
      exact q
theorem ok_merge_count (T : TX K mg) : FnOk P w K mg base CX0 2 T.a_merge_count T.d_merge_count p_merge_count spMergeCount := by
  have G_choose := ok_choose (P := P) (w := w) (base := base) T
  refine T.F_merge_count.ok sc_merge_count (fun vs H Q E h => ?_) (fun cdv A outer s H vs Q E hr h => ?_)
  · obtain ⟨l, a, ol, oa, same, rfl, _⟩ := h
    rfl
  · obtain ⟨l, a, ol, oa, same, rfl, ⟨b1, b2, b3, b4⟩, q⟩ := h
    refine ⟨_, (pss_cons (ps_if (pt_cmpR op_eq (pv 2) pe_int (nomark _))
      (pss_one (ps_ret (pe_ifExp (PW.pt (pw_and (pt_val (pv 4)) (pw_and1 (pt_cmpR op_eq (pv 1) pe_int (nomark _))))) pe_int pe_int)))
      pss_nil)
      (pss_cons (ps_set (i := 5) sc_merge_count.nd rfl (Or.inl rfl) (pe_op op_sub (pe_op op_sub (pv 0) (pv 3)) (pe_ifExp (pt_val (pv 4)) pe_int pe_int)))
      (pss_one (ps_ret (pe_call G_choose (hr.mono (by decide)) (by rfl) T.m_choose T.k_choose T.b_choose .nil pass0 (pa_cons (pe_op op_sub (pe_op op_add (pe_op op_sub (pv 0) (pv 1)) (pv 2)) (pv 3)) (pa_cons (pv 5) pa_nil))))))), ?_⟩
    unfold mergesOf at q
    refine ⟨_, rfl, rfl, _, rfl, ?_⟩
    refine iteB (fun e => ?_) (fun e => ?_)
    · have e1 : ol = 0 := V.int.inj (of_decide_eq_true e)
      rw [if_pos e1] at q
      refine ⟨_, rfl, _, rfl, ?_⟩
      cases same with
      | false =>
        refine iteF (iteF ?_)
        rw [if_neg (by simp)] at q
        exact q
      | true =>
        refine iteT ⟨_, rfl, rfl, _, rfl, ?_⟩
        refine iteB (fun e => ?_) (fun e => ?_)
        · rw [if_pos ⟨rfl, V.int.inj (of_decide_eq_true e)⟩] at q
          exact q
        · rw [if_neg (fun z => of_decide_eq_false e (congrArg V.int z.2))] at q
          exact q
    · have e1 : ¬ ol = 0 := fun z => of_decide_eq_false e (congrArg V.int z)
      rw [if_neg e1] at q
      refine ⟨_, rfl, _, rfl, _, _, rfl, rfl, _, rfl, _, rfl, ?_⟩
      cases same with
      | false => exact iteF ⟨_, _, rfl, rfl, _, rfl, _, rfl, _, _, rfl, rfl, _, rfl, _, _, rfl, rfl, _, rfl, _, _, rfl, rfl, _, rfl, _, _, rfl, by omega, q⟩
      | true => exact iteT ⟨_, _, rfl, rfl, _, rfl, _, rfl, _, _, rfl, rfl, _, rfl, _, _, rfl, rfl, _, rfl, _, _, rfl, rfl, _, rfl, _, _, rfl, by omega, q⟩
theorem ok_is_made_of (T : TX K mg) : FnOk P w K mg base CX0 1 T.a_is_made_of T.d_is_made_of p_is_made_of spMadeHl := by
  refine T.F_is_made_of.ok sc_is_made_of (fun vs H Q E h => ?_) (fun cdv A outer s H vs Q E hr h => ?_)
  · obtain ⟨bs, rfl, _⟩ := h
    rfl
  · obtain ⟨bs, rfl, hl, q⟩ := h
    refine ⟨_, (pss_one (ps_ret (pe_and (pe_callB call_isi (by rfl) T.m_isinstance (by decide +kernel) (pa_cons (pv 0) (pa_cons (pe_bltn (v := .ty "str") (by rfl) T.m_str (by decide +kernel) rfl) pa_nil))) (pe_one (pe_callB (cr_all rfl) (by rfl) T.m_all (by decide +kernel) (pa_cons (pe_lc (own := [("letter", 2)]) (g := gName 2) (by rfl) sc_is_made_of.nd (pi_str (pv 0)) (blkOk_by (own := [("letter", 2)]) (N := n_is_made_of) (sc := defScope s_is_made_of) (by decide +kernel)) (fun _ _ _ _ _ => (pg_name (i := 2) sc_is_made_of.nd rfl (Or.inl rfl))) (fun _ _ _ _ _ => pts_nil) (fun _ _ _ _ _ => (pe_cmpR op_in_sign (pv 2) (pv 1) rfl))) pa_nil)))))), ?_⟩
    refine ⟨_, rfl, _, .ty "str", _, _, true, rfl, .ty _, .base (.str _), kit_ty (show kitB "str" "str" = some true by decide +kernel), true, rfl, iteT ?_⟩
    refine ⟨_, rfl, _, rfl, fun D nD => lc_it walk_str (fun i H' => Same H H' ∧ H' D = some (.lst ((List.replicate i true).map V.bl))) ⟨same_new nD, upd_same⟩ (fun _ _ _ _ => True.intro) (fun i x H1 H2 hi p y => ?_) (fun H1 p => ?_)⟩
    · obtain ⟨p1, p2⟩ := p
      obtain ⟨rfl, c, hc, rfl⟩ := y
      have hc2 : (rowS bs).cps.toList[i]? = some c := by rw [Array.getElem?_toList]; exact hc
      rw [rowS_list, List.getElem?_map] at hc2
      have hin : c ∈ ("hl" : Str).cps.toList := by
        cases hb : bs[i]? with
        | none => rw [hb] at hc2; cases hc2
        | some b =>
          rw [hb] at hc2
          have e : rowC b = c := Option.some.inj hc2
          subst e
          cases b <;> decide +kernel
      refine ⟨rfl, yes_if ⟨_, rfl, _, rfl, c, _, rfl, rfl, _, p2, ?_, But.same nD p1 But.upd, ?_⟩⟩
      · rw [List.length_map, List.length_replicate]
        have : i < bs.length := by rw [← rowS_len]; exact hi
        exact small1000 (by omega)
      · rw [upd_same, decide_eq_true hin, List.replicate_succ', List.map_append]
        rfl
    · refine ⟨D, _, rfl, SqL.lst p.2, ?_⟩
      have e : (List.replicate (rowS bs).cps.size true).all id = true := by
        rw [List.all_eq_true]
        intro x hx
        exact (List.mem_replicate.mp hx).2
      rw [e]
      exact q _ p.1
theorem ok_is_row (T : TX K mg) : FnOk P w K mg base CX0 2 T.a_is_row T.d_is_row p_is_row spRowB := by
  have G_is_made_of := ok_is_made_of (P := P) (w := w) (base := base) T
  refine T.F_is_row.ok sc_is_row (fun vs H Q E h => ?_) (fun cdv A outer s H vs Q E hr h => ?_)
  · obtain ⟨bs, rfl, _⟩ := h
    rfl
  · obtain ⟨bs, rfl, hl, q⟩ := h
    exact ⟨_, (pss_one (ps_ret (pe_call G_is_made_of (hr.mono (by decide)) (by rfl) T.m_is_made_of T.k_is_made_of T.b_is_made_of .nil pass0 (pa_cons (pv 0) (pa_cons pe_str pa_nil))))), _, rfl, bs, rfl, hl, q⟩
theorem ok_check_row (T : TX K mg) : FnOk P w K mg base CX0 3 T.a_check_row T.d_check_row p_check_row spCheckRow := by
  have G_is_row := ok_is_row (P := P) (w := w) (base := base) T
  refine T.F_check_row.ok sc_check_row (fun vs H Q E h => ?_) (fun cdv A outer s H vs Q E hr h => ?_)
  · obtain ⟨bs, rfl, _⟩ := h
    rfl
  · obtain ⟨bs, rfl, hl, q⟩ := h
    exact ⟨_, (pss_one (ps_if (pt_not (pt_val (pe_call G_is_row (hr.mono (by decide)) (by rfl) T.m_is_row T.k_is_row T.b_is_row .nil pass0 (pa_cons (pv 0) pa_nil))))
      (pss_one ps_never)
      pss_nil)), _, rfl, bs, rfl, hl, fun H' s' => ⟨_, rfl, iteF (q _ s')⟩⟩
theorem ok_cut_count (T : TX K mg) : FnOk P w K mg base (L2.CX P w) 4 T.a_cut_count T.d_cut_count p_cut_count spCuts := by
  have G_check_row := ok_check_row (P := P) (w := w) (base := base) T
  have G_check_number := ok_check_number (P := P) (w := w) (base := base) T
  have G_block_count := ok_block_count (P := P) (w := w) (base := base) T
  have G_choose := ok_choose (P := P) (w := w) (base := base) T
  refine T.F_cut_count.okX sc_cut_count (fun vs H Q E h => ?_) (fun cdv A outer s H vs Q E hr h => ?_)
  · obtain ⟨bs, n, rfl, _⟩ := h
    rfl
  · obtain ⟨bs, n, rfl, hl, q⟩ := h
    refine ⟨_, (pss_cons (ps_expr (pe_call G_check_row (hr.mono (by decide)) (by rfl) T.m_check_row T.k_check_row T.b_check_row .nil pass0 (pa_cons (pv 0) pa_nil)))
      (pss_cons (ps_expr (pe_call G_check_number (hr.mono (by decide)) (by rfl) T.m_check_number T.k_check_number T.b_check_number .nil (passes_call (takes_of rfl rfl rfl rfl) (fun _ _ _ _ h => h)) (pa_cons (pv 1) (pa_cons pe_int (pa_cons pe_non pa_nil)))))
      (pss_cons (ps_set (i := 2) sc_cut_count.nd rfl (Or.inl rfl) (pe_call G_block_count (hr.mono (by decide)) (by rfl) T.m_block_count T.k_block_count T.b_block_count .nil pass0 (pa_cons (pv 0) pa_nil)))
      (pss_one (ps_ret (pe_call G_choose (hr.mono (by decide)) (by rfl) T.m_choose T.k_choose T.b_choose .nil pass0 (pa_cons (pe_op op_sub (pe_callB call_len_str (by rfl) T.m_len PySem.boot_len (pa_cons (pv 0) pa_nil)) (pv 2)) (pa_cons (pe_op op_sub (pv 1) (pv 2)) pa_nil)))))))), ?_⟩
    refine ⟨_, rfl, bs, rfl, hl, fun H1 s1 => ?_⟩
    have hb : isNum (.int (n : Int)) 0 = true := decide_eq_true (show (0 : Int) ≤ (n : Int) by omega)
    refine ⟨_, rfl, _, _, rfl, .int _, fun _ => ?_, fun z => ?_⟩
    · refine ⟨_, rfl, bs, rfl, hl, ?_⟩
      refine ⟨_, rfl, _, rfl, by rw [rowS_len]; exact Nat.le_of_lt (small1000 hl), _, rfl, _, _, rfl, rfl, _, rfl, _, rfl, _, _, rfl, rfl, _, _, rfl, ?_, ?_⟩
      · have h1 : hs bs bs.length ≤ bs.length := hs_len bs bs.length
        rw [rowS_len]
        unfold least
        omega
      · rw [rowS_len]
        exact q _ s1
    · rw [hb] at z
      cases z
theorem ok_merges (T : TX K mg) : FnOk P w K mg base (L2.CX P w) 4 T.a_merges T.d_merges p_merges (spMerges K T.a_InvalidNumber) := by
  have G_check_number := ok_check_number (P := P) (w := w) (base := base) T
  have G_merge_count := ok_merge_count (P := P) (w := w) (base := base) T
  refine T.F_merges.okX sc_merges (fun vs H Q E h => ?_) (fun cdv A outer s H vs Q E hr h => ?_)
  · obtain ⟨v1, v2, v3, v4, same, rfl, _⟩ := h
    rfl
  · obtain ⟨v1, v2, v3, v4, same, rfl, ⟨k1, k2, k3, k4⟩, bd, r1, r2, r3, r4, q⟩ := h
    refine ⟨_, (pss_cons (ps_expr (pe_call G_check_number (hr.mono (by decide)) (by rfl) T.m_check_number T.k_check_number T.b_check_number .nil (passes_call (takes_of rfl rfl rfl rfl) (fun _ _ _ _ h => h)) (pa_cons (pv 0) (pa_cons pe_int (pa_cons pe_non pa_nil)))))
      (pss_cons (ps_expr (pe_call G_check_number (hr.mono (by decide)) (by rfl) T.m_check_number T.k_check_number T.b_check_number .nil (passes_call (takes_of rfl rfl rfl rfl) (fun _ _ _ _ h => h)) (pa_cons (pv 1) (pa_cons pe_int (pa_cons pe_non pa_nil)))))
      (pss_cons (ps_expr (pe_call G_check_number (hr.mono (by decide)) (by rfl) T.m_check_number T.k_check_number T.b_check_number .nil (passes_call (takes_of rfl rfl rfl rfl) (fun _ _ _ _ h => h)) (pa_cons (pv 2) (pa_cons pe_int (pa_cons pe_non pa_nil)))))
      (pss_cons (ps_expr (pe_call G_check_number (hr.mono (by decide)) (by rfl) T.m_check_number T.k_check_number T.b_check_number .nil (passes_call (takes_of rfl rfl rfl rfl) (fun _ _ _ _ h => h)) (pa_cons (pv 3) (pa_cons pe_int (pa_cons pe_non pa_nil)))))
      (pss_one (ps_ret (pe_call G_merge_count (hr.mono (by decide)) (by rfl) T.m_merge_count T.k_merge_count T.b_merge_count .nil pass0 (pa_cons (pv 0) (pa_cons (pv 1) (pa_cons (pv 2) (pa_cons (pv 3) (pa_cons (pv 4) pa_nil)))))))))))), ?_⟩
    refine ⟨_, rfl, _, _, rfl, k1, fun e1 => ?_, r1⟩
    refine ⟨_, rfl, _, _, rfl, k2, fun e2 => ?_, r2 e1⟩
    refine ⟨_, rfl, _, _, rfl, k3, fun e3 => ?_, r3 e1 e2⟩
    refine ⟨_, rfl, _, _, rfl, k4, fun e4 => ?_, r4 e1 e2 e3⟩
    have q' := q e1 e2 e3 e4
    obtain ⟨i1, rfl, h1⟩ := isNum_int e1
    obtain ⟨i2, rfl, h2⟩ := isNum_int e2
    obtain ⟨i3, rfl, h3⟩ := isNum_int e3
    obtain ⟨i4, rfl, h4⟩ := isNum_int e4
    exact ⟨_, rfl, _, rfl, _, rfl, _, rfl, _, rfl, i1, i2, i3, i4, same, rfl, ⟨bd i1 (by simp), bd i3 (by simp), h2, h4⟩, q'⟩
end
end K11

namespace K11
open PySem PySem.Spec PyProof.Rows L2
local macro_rules | `(tactic| walk_at "rd") => `(tactic| repeat (first
  | refine ⟨_, rfl, ?_⟩
  | refine ⟨_, _, rfl, rfl, ?_⟩
  | refine ⟨_, _, _, _, rfl, rfl, SqL.lst (by first | assumption | exact upd_same), rfl, ?_⟩
  | refine ⟨_, _, _, _, rfl, rfl, (by first | assumption | exact upd_same), rfl, ?_⟩
  | refine Or.inl ⟨_, rfl, ?_⟩
  | refine ⟨_, _, rfl, (by assumption), ?_⟩
  | refine ⟨by first | exact ⟨by decide, by decide, by decide⟩ | exact wide_mul (a := 64) (b := 64) (by omega) (by omega) (by decide) (by decide) (by decide) | exact wide_div (b := 64) (by omega) (by omega) (by decide) (by decide) | (show (0 : Int) < _; omega), ?_⟩))

def spRow : Sp := fun vs H Q _ => ∃ (p : Addr) (letters way n : Nat), vs = [.ref p, .int (letters : Int), .int (way : Int)] ∧ Box H p n ∧ n ≤ 1000 ∧ letters ≤ 1000 ∧ way < 5 ∧ ∀ (bs : List Bool) H', bs.length = letters → But p H H' → Q (.str (rowS bs)) H'
theorem pick5 {way : Nat} (h : way < 5) : ∃ sz : Nat, 0 < sz ∧ sz < 2 ^ 62 ∧ atI [V.int 2, V.int 3, V.int 5, V.int 8, V.int 2] (way : Int) = some (.int (sz : Int)) := by
  match way, h with
  | 0, _ => exact ⟨2, by decide, by decide, rfl⟩
  | 1, _ => exact ⟨3, by decide, by decide, rfl⟩
  | 2, _ => exact ⟨5, by decide, by decide, rfl⟩
  | 3, _ => exact ⟨8, by decide, by decide, rfl⟩
  | 4, _ => exact ⟨2, by decide, by decide, rfl⟩
def spLawChoose : Sp := fun vs H Q _ => ∃ n t : Int, vs = [.int n, .int t] ∧ n ≤ 1000 ∧ Q (.int (chI n t)) H
def spFormula (K : PySem.W.Frag) : Sp := fun vs H Q _ => ∃ (a : Addr) (n0 n1 n2 n3 : Nat) (same : Bool), vs = [.ref a, .bl same] ∧ SqL K H a [.int (n0 : Int), .int (n1 : Int), .int (n2 : Int), .int (n3 : Int)] ∧ (n0 ≤ 300 ∧ n1 ≤ 300 ∧ n2 ≤ 300 ∧ n3 ≤ 300) ∧ Q (.int (mergesOf n0 n1 n2 n3 same)) H
def spSame2 : Sp := fun vs H Q _ => ∃ i : Int, vs = [.int i, .int i] ∧ Q (.bl true) H
def spSum : Sp := fun vs H Q _ => ∃ (xs ys : List Bool) (more : Nat), vs = [.str (rowS xs), .str (rowS ys), .int (more : Int)] ∧ xs.length ≤ 9 ∧ ys.length ≤ 9 ∧ ∀ H', Same H H' → Q (.int (sumTo (fun b => cutsOf xs ((b : Int) + more) * cutsOf ys b) (ys.length + 1))) H'
theorem prod_step {n k : Nat} (h : k < n) : (ch n k : Int) * ((n : Int) - (k : Int)) / ((k : Int) + 1) = (ch n (k + 1) : Int) := by
  have e := ch_step n k
  have e2 : (ch n k : Int) * ((n : Int) - (k : Int)) = (ch n (k + 1) : Int) * ((k : Int) + 1) := by
    have z := congrArg (fun z : Nat => (z : Int)) e
    simp only [Int.natCast_mul] at z
    rw [show ((n - k : Nat) : Int) = (n : Int) - k by omega, show ((k + 1 : Nat) : Int) = (k : Int) + 1 by omega] at z
    exact z.symm
  rw [e2]
  exact Int.mul_ediv_cancel _ (by omega)
theorem ch_bits {n k : Nat} (h : n ≤ 1000) : ((ch n k : Nat) : Int).natAbs < 2 ^ 1001 := by
  rw [Int.natAbs_natCast]
  exact Nat.lt_of_le_of_lt (ch_le n k) (Nat.pow_lt_pow_right (by decide) (by omega))
theorem chI_small {n t : Int} (hn : n ≤ 9) : (chI n t).natAbs < 2 ^ 10 := by
  by_cases h : t < 0 ∨ t > n
  · rw [chI_out h]
    decide
  · obtain ⟨k, rfl⟩ := nat_of (show 0 ≤ t by omega)
    obtain ⟨m, rfl⟩ := nat_of (show 0 ≤ n by omega)
    rw [chI_in, Int.natAbs_natCast]
    exact Nat.lt_of_le_of_lt (ch_le m k) (Nat.pow_lt_pow_right (by decide) (by omega))
theorem cuts_small {xs : List Bool} {n : Int} (h : xs.length ≤ 9) : (cutsOf xs n).natAbs < 2 ^ 10 := by
  unfold cutsOf
  refine chI_small ?_
  have := hs_len xs xs.length
  unfold least
  omega
section
variable {P : Program} {w : World} {K : PySem.W.Frag} {mg : Str → Option Value} {base : Heap}
theorem ok__law_row (T : TX K mg) : FnOk P w K mg base CX0 2 T.a__law_row T.d__law_row p__law_row spRow := by
  have G__law_take := ok__law_take (P := P) (w := w) (base := base) T
  refine T.F__law_row.ok sc__law_row (fun vs H Q E h => ?_) (fun cdv A outer s H vs Q E hr h => ?_)
  · obtain ⟨p, letters, way, n, rfl, _⟩ := h
    rfl
  · obtain ⟨p, letters, way, n, rfl, bx, hn, hl, hw, q⟩ := h
    obtain ⟨sz, z1, z2, z3⟩ := pick5 hw
    refine ⟨_, (pss_cons (ps_set (i := 3) sc__law_row.nd rfl (Or.inl rfl) pe_str)
      (pss_cons (ps_for PassesOwn.never rfl (pi_range1 (by rfl) T.m_range (pa_cons (pv 1) pa_nil)) (pg_name (i := 4) sc__law_row.nd rfl (Or.inl rfl))
      (pss_cons (ps_set (i := 5) sc__law_row.nd rfl (Or.inl rfl) (pe_cmpR op_eq (pe_call G__law_take (hr.mono (by decide)) (by rfl) T.m__law_take T.k__law_take T.b__law_take .nil pass0 (pa_cons (pv 0) (pa_cons (pe_ix ix_list (pe_lst (pa_cons pe_int (pa_cons pe_int (pa_cons pe_int (pa_cons pe_int (pa_cons pe_int pa_nil)))))) (pv 2) (fun _ _ => rfl)) pa_nil))) pe_int (nomark _)))
      (pss_one (ps_set (i := 3) sc__law_row.nd rfl (Or.inl rfl) (pe_op op_add_str (pv 3) (pe_ifExp (PW.pt (pw_and (pt_val (pv 5)) (pw_and1 (pt_cmpR op_lt (pv 2) pe_int (nomark _))))) pe_str pe_str))))))
      (pss_one (ps_ret (pv 3))))), ?_⟩
    refine ⟨_, rfl, (letters : Int), rfl, by omega, by omega, for_range (lo := 0) (n := letters) (fun i σ H' => ∃ (bs : List Bool) (y4 y5 : Option V), bs.length = i ∧ σ = [some (.ref p), some (.int (letters : Int)), some (.int (way : Int)), some (.str (rowS bs)), y4, y5] ∧ But p H H' ∧ Box H' p (n + i)) ⟨[], none, none, rfl, ?_, But.refl p H, bx⟩ (fun i σ H1 hi w => ?_) (fun σ H1 w => ?_)⟩
    · rw [rowS_nil]
      rfl
    · obtain ⟨bs, y4, y5, e0, rfl, b1, x1⟩ := w
      refine ⟨_, rfl, by show 5 ≤ sizeLine; decide, fun l nl => ⟨_, rfl, l, _, _, _, rfl, rfl, SqL.lst upd_same, z3, p, sz, n + i, rfl, x1.same (same_new nl), by omega, z1, z2, fun d H2 hd b2 x2 => ?_⟩⟩
      have b3 : But p H H2 := b1.trans ((But.of (same_new nl)).trans b2)
      refine ⟨rfl, _, rfl, _, rfl, ?_⟩
      have fin : ∀ c : Bool, (rowS bs).length + 1 ≤ sizeLine ∧ ∃ (bs' : List Bool) (y4 y5 : Option V), bs'.length = i + 1 ∧ ([some (V.ref p), some (V.int (letters : Int)), some (V.int (way : Int)), some (V.str (rowS bs ++ (if c = true then ("l" : Str) else ("h" : Str)))), some (V.int (0 + (i : Int))), some (V.bl (decide (V.int (d : Int) = V.int 0)))] : List (Option V)) = [some (.ref p), some (.int (letters : Int)), some (.int (way : Int)), some (.str (rowS bs')), y4, y5] ∧ But p H H2 ∧ Box H2 p (n + (i + 1)) := fun c => by
        refine ⟨?_, bs ++ [c], _, _, by rw [List.length_append, e0] <;> rfl, by rw [rowS_add], b3, x2⟩
        rw [rowS_len]
        exact small1000 (by omega)
      refine ⟨_, rfl, ?_⟩
      refine iteB (fun e1 => ?_) (fun e1 => ?_)
      · refine ⟨_, rfl, _, _, rfl, rfl, _, rfl, ?_⟩
        refine iteB (fun e2 => ?_) (fun e2 => ?_)
        · exact ⟨_, _, rfl, rfl, fin true⟩
        · exact ⟨_, _, rfl, rfl, fin false⟩
      · exact iteF ⟨_, _, rfl, rfl, fin false⟩
    · obtain ⟨bs, y4, y5, e0, rfl, b1, x1⟩ := w
      exact ⟨_, rfl, q bs _ e0 b1⟩
theorem ok__law_least (T : TX K mg) : FnOk P w K mg base CX0 1 T.a__law_least T.d__law_least p__law_least spLeast := by
  refine T.F__law_least.ok sc__law_least (fun vs H Q E h => ?_) (fun cdv A outer s H vs Q E hr h => ?_)
  · obtain ⟨bs, rfl, _⟩ := h
    rfl
  · obtain ⟨bs, rfl, hl, q⟩ := h
    refine ⟨_, (pss_cons (ps_if (pt_cmpR op_eq (pv 0) pe_str (nomark _))
      (pss_one (ps_ret pe_int))
      pss_nil)
      (pss_one (ps_ret (pe_op op_add (pe_bm PySem.F.plainAttrs_str PySem.F.slot_str_count PySem.F.type_str_count mt_count (pv 0) (pa_cons pe_str pa_nil)) (pe_callTy call_int1 (by rfl) T.m_int (by decide +kernel) (pa_cons (pe_cmpR op_eq (pe_ix ix_str (pv 0) pe_int (fun _ _ => rfl)) pe_str (nomark _)) pa_nil)))))), ?_⟩
    refine ⟨_, rfl, rfl, _, rfl, ?_⟩
    cases bs with
    | nil =>
      rw [rowS_nil]
      exact q
    | cons b r =>
      refine iteB (fun e => ?_) (fun e => ?_)
      · have e1 := V.str.inj (of_decide_eq_true e)
        have e2 : (rowS (b :: r)).length = 0 := by rw [e1] <;> rfl
        rw [rowS_len] at e2
        cases e2
      · refine ⟨_, rfl, rfl, _, _, rfl, rfl, _, rfl, _, _, _, rfl, rfl, by rw [rowS_len]; exact Nat.le_of_lt (small1000 hl), row_at (bs := b :: r) (i := 0) rfl, rfl, .inr ⟨_, rfl, _, _, rfl, rfl, ?_⟩⟩
        rw [row_count, sign_h]
        rw [least_eq] at q
        cases b <;> exact q
theorem ok__law_choose (T : TX K mg) : FnOk P w K mg base CX0 1 T.a__law_choose T.d__law_choose p__law_choose spLawChoose := by
  refine T.F__law_choose.ok sc__law_choose (fun vs H Q E h => ?_) (fun cdv A outer s H vs Q E hr h => ?_)
  · obtain ⟨n, t, rfl, _⟩ := h
    rfl
  · obtain ⟨n, t, rfl, hn, q⟩ := h
    refine ⟨_, (pss_cons (ps_if (PW.pt (pw_or (pt_cmpR op_lt (pv 1) pe_int (nomark _)) (pw_or1 (pt_cmpR op_gt (pv 1) (pv 0) (nomark _)))))
      (pss_one (ps_ret pe_int))
      pss_nil)
      (pss_cons (ps_set (i := 2) sc__law_choose.nd rfl (Or.inl rfl) pe_int)
      (pss_cons (ps_for PassesOwn.never rfl (pi_range1 (by rfl) T.m_range (pa_cons (pv 1) pa_nil)) (pg_name (i := 3) sc__law_choose.nd rfl (Or.inl rfl))
      (pss_one (ps_set (i := 2) sc__law_choose.nd rfl (Or.inl rfl) (pe_op op_fdivW (pe_op op_mulW (pv 2) (pe_op op_sub (pv 0) (pv 3))) (pe_op op_add (pv 3) pe_int)))))
      (pss_one (ps_ret (pv 2)))))), ?_⟩
    walk_at "rd"
    refine iteB (fun e => ?_) (fun e => ?_)
    · refine iteT ?_
      rw [chI_out (.inl (of_decide_eq_true e))] at q
      exact q
    · have e1 : ¬ t < 0 := of_decide_eq_false e
      walk_at "rd"
      refine iteB (fun e => ?_) (fun e => ?_)
      · rw [chI_out (.inr (of_decide_eq_true e))] at q
        exact q
      · have e2 : ¬ n < t := of_decide_eq_false e
        obtain ⟨k, rfl⟩ := nat_of (show 0 ≤ t by omega)
        obtain ⟨m, rfl⟩ := nat_of (show 0 ≤ n by omega)
        refine ⟨_, rfl, (k : Int), rfl, by omega, by omega, for_range (lo := 0) (n := k) (fun i σ H' => ∃ (y3 : Option V), σ = [some (.int (m : Int)), some (.int (k : Int)), some (.int (ch m i : Int)), y3] ∧ H' = H) ⟨none, ?_, rfl⟩ (fun i σ H1 hi w => ?_) (fun σ H1 w => ?_)⟩
        · rw [ch_zero]
          rfl
        · obtain ⟨y3, rfl, rfl⟩ := w
          refine ⟨_, rfl, _, rfl, _, rfl, _, _, rfl, rfl, _, _, rfl, rfl, wide_mul (a := 1001) (b := 64) (ch_bits (by omega)) (by omega) (by decide) (by decide) (by decide), _, rfl, _, _, rfl, rfl, _, _, rfl, rfl, wide_div (b := 64) (by omega) (by omega) (by decide) (by decide), ?_⟩
          refine ⟨some (.int (0 + (i : Int))), ?_, rfl⟩
          have z := prod_step (n := m) (k := i) (by omega)
          show [some (V.int (m : Int)), some (V.int (k : Int)), some (V.int ((ch m i : Int) * ((m : Int) - (0 + (i : Int))) / (0 + (i : Int) + 1))), some (V.int (0 + (i : Int)))] = _
          rw [Int.zero_add, z]
        · obtain ⟨y3, rfl, rfl⟩ := w
          rw [chI_in] at q
          exact ⟨_, rfl, q⟩
theorem ok__law_formula (T : TX K mg) : FnOk P w K mg base CX0 2 T.a__law_formula T.d__law_formula p__law_formula (spFormula K) := by
  have G__law_choose := ok__law_choose (P := P) (w := w) (base := base) T
  refine T.F__law_formula.ok sc__law_formula (fun vs H Q E h => ?_) (fun cdv A outer s H vs Q E hr h => ?_)
  · obtain ⟨a, n0, n1, n2, n3, same, rfl, _⟩ := h
    rfl
  · obtain ⟨a, n0, n1, n2, n3, same, rfl, hS, hb, q⟩ := h
    refine ⟨_, (pss_cons (ps_if (pt_cmpR op_eq (pe_ix ix_list (pv 0) pe_int (fun _ _ => rfl)) pe_int (nomark _))
      (pss_one (ps_ret (pe_callTy call_int1 (by rfl) T.m_int (by decide +kernel) (pa_cons (pe_and (pv 1) (pe_one (pe_cmpR op_eq (pe_ix ix_list (pv 0) pe_int (fun _ _ => rfl)) pe_int (nomark _)))) pa_nil))))
      pss_nil)
      (pss_cons (ps_set (i := 2) sc__law_formula.nd rfl (Or.inl rfl) (pe_op op_sub (pe_op op_add (pe_op op_sub (pe_ix ix_list (pv 0) pe_int (fun _ _ => rfl)) (pe_ix ix_list (pv 0) pe_int (fun _ _ => rfl))) (pe_ix ix_list (pv 0) pe_int (fun _ _ => rfl))) (pe_ix ix_list (pv 0) pe_int (fun _ _ => rfl))))
      (pss_one (ps_ret (pe_call G__law_choose (hr.mono (by decide)) (by rfl) T.m__law_choose T.k__law_choose T.b__law_choose .nil pass0 (pa_cons (pv 2) (pa_cons (pe_op op_sub (pe_op op_sub (pe_ix ix_list (pv 0) pe_int (fun _ _ => rfl)) (pe_ix ix_list (pv 0) pe_int (fun _ _ => rfl))) (pe_callTy call_int1 (by rfl) T.m_int (by decide +kernel) (pa_cons (pv 1) pa_nil))) pa_nil))))))), ?_⟩
    unfold mergesOf at q
    refine ⟨_, rfl, _, _, _, _, rfl, rfl, hS, rfl, rfl, _, rfl, ?_⟩
    refine iteB (fun e => ?_) (fun e => ?_)
    · rw [if_pos (V.int.inj (of_decide_eq_true e))] at q
      refine ⟨_, rfl, _, rfl, ?_⟩
      cases same with
      | false =>
        rw [if_neg (by simp)] at q
        exact iteF (.inr ⟨_, rfl, q⟩)
      | true =>
        refine iteT ⟨_, rfl, _, _, _, _, rfl, rfl, hS, rfl, rfl, .inr ⟨_, rfl, ?_⟩⟩
        by_cases e2 : (n1 : Int) = 1
        · rw [if_pos ⟨rfl, e2⟩] at q
          rw [decide_eq_true (congrArg V.int e2)]
          exact q
        · rw [if_neg (fun z => e2 z.2)] at q
          rw [decide_eq_false (fun z => e2 (V.int.inj z))]
          exact q
    · rw [if_neg (fun z => of_decide_eq_false e (congrArg V.int z))] at q
      refine ⟨_, rfl, _, _, _, _, rfl, rfl, hS, rfl, _, rfl, _, _, _, _, rfl, rfl, hS, rfl, _, _, rfl, rfl, _, rfl, _, _, _, _, rfl, rfl, hS, rfl, _, _, rfl, rfl, _, rfl, _, _, _, _, rfl, rfl, hS, rfl, _, _, rfl, rfl, ?_⟩
      refine ⟨_, rfl, _, rfl, _, _, _, _, rfl, rfl, hS, rfl, _, rfl, _, _, _, _, rfl, rfl, hS, rfl, _, _, rfl, rfl, _, rfl, .inr ⟨_, rfl, _, _, rfl, rfl, _, _, rfl, by omega, ?_⟩⟩
      cases same <;> exact q
theorem ok__law_is_number (T : TX K mg) : FnOk P w K mg base CX0 1 T.a__law_is_number T.d__law_is_number p__law_is_number spSame2 := by
  refine T.F__law_is_number.ok sc__law_is_number (fun vs H Q E h => ?_) (fun cdv A outer s H vs Q E hr h => ?_)
  · obtain ⟨i, rfl, _⟩ := h
    rfl
  · obtain ⟨i, rfl, q⟩ := h
    refine ⟨_, (pss_one (ps_ret (pe_and (pe_callB call_isi (by rfl) T.m_isinstance (by decide +kernel) (pa_cons (pv 0) (pa_cons (pe_bltn (v := .ty "int") (by rfl) T.m_int (by decide +kernel) rfl) pa_nil))) (pe_and (pe_not (pe_callB call_isi (by rfl) T.m_isinstance (by decide +kernel) (pa_cons (pv 0) (pa_cons (pe_bltn (v := .ty "bool") (by rfl) T.m_bool (by decide +kernel) rfl) pa_nil)))) (pe_one (pe_cmpR op_eq (pv 0) (pv 1) (nomark _))))))), ?_⟩
    refine ⟨_, rfl, _, .ty "int", _, _, true, rfl, .ty _, .base (.int i), kit_ty (show kitB "int" "int" = some true by decide +kernel), true, rfl, iteT ?_⟩
    refine ⟨_, rfl, _, .ty "bool", _, _, false, rfl, .ty _, .base (.int i), kit_ty (show kitB "int" "bool" = some false by decide +kernel), false, rfl, true, rfl, iteT ?_⟩
    refine ⟨_, rfl, _, rfl, rfl, ?_⟩
    rw [decide_eq_true rfl]
    exact q
theorem ok__law_sum (T : TX K mg) : FnOk P w K mg base CX0 5 T.a__law_sum T.d__law_sum p__law_sum spSum := by
  have G_cut_count := ok_cut_count (P := P) (w := w) (base := base) T
  refine T.F__law_sum.ok sc__law_sum (fun vs H Q E h => ?_) (fun cdv A outer s H vs Q E hr h => ?_)
  · obtain ⟨xs, ys, more, rfl, _⟩ := h
    rfl
  · obtain ⟨xs, ys, more, rfl, hx, hy, q⟩ := h
    refine ⟨_, (pss_cons (ps_set (i := 3) sc__law_sum.nd rfl (Or.inl rfl) pe_int)
      (pss_cons (ps_for PassesOwn.never rfl (pi_range1 (by rfl) T.m_range (pa_cons (pe_op op_add (pe_callB call_len_str (by rfl) T.m_len PySem.boot_len (pa_cons (pv 1) pa_nil)) pe_int) pa_nil)) (pg_name (i := 4) sc__law_sum.nd rfl (Or.inl rfl))
      (pss_one (ps_set (i := 3) sc__law_sum.nd rfl (Or.inl rfl) (pe_op op_add (pv 3) (pe_op op_mulW (pe_call G_cut_count (hr.mono (by decide)) (by rfl) T.m_cut_count T.k_cut_count T.b_cut_count .nil passL (pa_cons (pv 0) (pa_cons (pe_op op_add (pv 4) (pv 2)) pa_nil))) (pe_call G_cut_count (hr.mono (by decide)) (by rfl) T.m_cut_count T.k_cut_count T.b_cut_count .nil passL (pa_cons (pv 1) (pa_cons (pv 4) pa_nil))))))))
      (pss_one (ps_ret (pv 3))))), ?_⟩
    refine ⟨_, rfl, _, rfl, by rw [rowS_len]; exact Nat.le_of_lt (small1000 (by omega)), _, _, rfl, rfl, _, rfl, by rw [rowS_len]; omega, by rw [rowS_len]; omega, ?_⟩
    have ej : (((rowS ys).length : Int) + 1).toNat = ys.length + 1 := by rw [rowS_len]; omega
    refine for_range (lo := 0) (n := (((rowS ys).length : Int) + 1).toNat) (fun i σ H' => ∃ (y4 : Option V), σ = [some (.str (rowS xs)), some (.str (rowS ys)), some (.int (more : Int)), some (.int (sumTo (fun b => cutsOf xs ((b : Int) + more) * cutsOf ys b) i)), y4] ∧ Same H H') ⟨none, rfl, Same.refl H⟩ (fun i σ H1 hi w => ?_) (fun σ H1 w => ?_)
    · rw [ej] at hi
      obtain ⟨y4, rfl, s1⟩ := w
      have e1 : [V.str (rowS xs), V.int (0 + (i : Int) + (more : Int))] = [V.str (rowS xs), V.int ((i + more : Nat) : Int)] := by rw [show (0 + (i : Int) + (more : Int)) = ((i + more : Nat) : Int) by omega]
      have e2 : [V.str (rowS ys), V.int (0 + (i : Int))] = [V.str (rowS ys), V.int (i : Int)] := by rw [Int.zero_add]
      refine ⟨_, rfl, _, rfl, _, rfl, _, rfl, _, _, rfl, rfl, xs, i + more, e1, by omega, fun H2 s2 => ?_⟩
      refine ⟨_, rfl, _, rfl, ys, i, e2, by omega, fun H3 s3 => ?_⟩
      refine ⟨_, _, rfl, rfl, wide_mul (a := 10) (b := 10) (cuts_small hx) (cuts_small hy) (by decide) (by decide) (by decide), _, _, rfl, rfl, ?_⟩
      refine ⟨some (.int (0 + (i : Int))), ?_, s1.trans (s2.trans s3)⟩
      show [some (V.str (rowS xs)), some (V.str (rowS ys)), some (V.int (more : Int)), some (V.int (sumTo (fun b => cutsOf xs ((b : Int) + more) * cutsOf ys b) i + cutsOf xs ((i + more : Nat) : Int) * cutsOf ys (i : Int))), some (V.int (0 + (i : Int)))] = _
      rw [show ((i + more : Nat) : Int) = (i : Int) + (more : Int) by omega]
      rfl
    · rw [ej] at w
      obtain ⟨y4, rfl, s1⟩ := w
      exact ⟨_, rfl, q _ s1⟩
end
end K11

namespace L2
open PySem PySem.Spec PyProof.Rows
/-! ### a table: a list of lists of ints -/
theorem at_ref {rs : List Addr} {i : Nat} {r : Addr} (h : rs[i]? = some r) : atI (rs.map V.ref) (i : Int) = some (.ref r) := by
  refine atI_nat ?_
  rw [List.getElem?_map, h]
  rfl
theorem at_row {m j : Nat} {f : Nat → V} (h : j < m) : atI ((List.range m).map f) (j : Int) = some (f j) := by
  refine atI_nat ?_
  rw [List.getElem?_map, List.getElem?_range h]
  rfl
theorem ixN_nat {n j : Nat} (h : j < n) : ixN n (j : Int) = some j := by
  unfold ixN
  rw [if_pos (by omega), if_pos (by omega)]
  rfl
theorem row_set {m j : Nat} {f : Nat → V} {v : V} : ((List.range m).map f).set j v = (List.range m).map fun i => if i = j then v else f i := by
  refine List.ext_getElem? fun i => ?_
  rw [List.getElem?_set, List.getElem?_map, List.getElem?_map, List.length_map, List.length_range]
  by_cases hi : i < m
  · rw [List.getElem?_range hi]
    by_cases e : j = i
    · subst e
      simp [hi]
    · have e' : ¬ i = j := fun z => e z.symm
      simp [e, e']
  · have z : (List.range m)[i]? = none := List.getElem?_eq_none (by rw [List.length_range]; omega)
    rw [z]
    by_cases e : j = i
    · subst e
      simp [hi]
    · simp [e]
theorem at_refE {rs : List Addr} {z : Int} {r : Addr} (i : Nat) (h : rs[i]? = some r) (e : z = (i : Int)) : atI (rs.map V.ref) z = some (.ref r) := by
  rw [e]
  exact at_ref h
theorem at_rowE {m : Nat} {z : Int} {f : Nat → V} (j : Nat) (h : j < m) (e : z = (j : Int)) : atI ((List.range m).map f) z = some (f j) := by
  rw [e]
  exact at_row h
theorem ixN_E {n : Nat} {z : Int} (j : Nat) (h : j < n) (e : z = (j : Int)) : ixN n z = some j := by
  rw [e]
  exact ixN_nat h
structure Grid (H : Hp) (a : Addr) (rs : List Addr) (m : Nat) (f : Nat → Nat → Int) : Prop where
  top : H a = some (.lst (rs.map V.ref))
  nd : (a :: rs).Nodup
  row : ∀ i r, rs[i]? = some r → H r = some (.lst ((List.range m).map fun j => V.int (f i j)))
section
variable {H H' : Hp} {a : Addr} {rs : List Addr} {m : Nat} {f g : Nat → Nat → Int}
theorem Grid.same (s : Same H H') (t : Grid H a rs m f) : Grid H' a rs m f := ⟨s _ _ t.top, t.nd, fun i r e => s _ _ (t.row i r e)⟩
theorem Grid.congr (t : Grid H a rs m f) (e : ∀ i j, i < rs.length → j < m → f i j = g i j) : Grid H a rs m g := ⟨t.top, t.nd, fun i r h => by
  rw [t.row i r h]
  congr 2
  refine List.map_congr_left fun j hj => ?_
  rw [e i j (List.getElem?_eq_some_iff.mp h).1 (List.mem_range.mp hj)]⟩
theorem ne_mem {α : Type} {x y : α} {l : List α} (h : x ∈ l) (n : y ∉ l) : x ≠ y := fun e => n (e ▸ h)
theorem Grid.out {r : Addr} {o : HO} (t : Grid H a rs m f) (h : r ∉ a :: rs) : Grid (upd H r o) a rs m f := ⟨(upd_ne (ne_mem (List.mem_cons_self ..) h)).trans t.top, t.nd, fun i x e =>
  (upd_ne (ne_mem (List.mem_cons_of_mem _ (List.mem_of_getElem? e)) h)).trans (t.row i x e)⟩
theorem Grid.put {i j : Nat} {r : Addr} {v : Int} (t : Grid H a rs m f) (h : rs[i]? = some r) : Grid (upd H r (.lst (((List.range m).map fun j => V.int (f i j)).set j (.int v)))) a rs m (fun x y => if x = i ∧ y = j then v else f x y) := by
  have nd := List.nodup_cons.mp t.nd
  refine ⟨(upd_ne (ne_mem (List.mem_of_getElem? h) nd.1).symm).trans t.top, t.nd, fun x y e => ?_⟩
  by_cases hx : x = i
  · subst hx
    have e2 : y = r := Option.some.inj (e.symm.trans h)
    subst e2
    rw [upd_same, row_set]
    congr 2
    refine List.map_congr_left fun k _ => ?_
    by_cases hk : k = j
    · rw [if_pos hk, if_pos ⟨rfl, hk⟩]
    · rw [if_neg hk, if_neg fun z => hk z.2]
  · have ne : y ≠ r := fun z => hx (nd_ix nd.2 e (z ▸ h))
    rw [upd_ne ne, t.row x y e]
    congr 2
    refine List.map_congr_left fun k _ => ?_
    rw [if_neg fun z => hx z.1]
end
/-- rows of noughts, as they are made one by one; ahead of them H0 stood -/
structure Rows0 (H0 H : Hp) (a : Addr) (rs : List Addr) (m : Nat) : Prop where
  top : H a = some (.lst (rs.map V.ref))
  nd : (a :: rs).Nodup
  fresh : ∀ r, r ∈ a :: rs → H0 r = none
  same : Same H0 H
  row : ∀ r, r ∈ rs → H r = some (.lst (List.replicate m (.int 0)))
theorem Rows0.start {H0 : Hp} {a : Addr} {m : Nat} (n : H0 a = none) : Rows0 H0 (upd H0 a (.lst [])) a [] m :=
  ⟨upd_same, by simp, fun r hr => by rw [List.mem_singleton.mp hr]; exact n, same_new n, fun r hr => by cases hr⟩
theorem Rows0.step {H0 H : Hp} {a l p : Addr} {rs : List Addr} {m : Nat} {lo : HO} (t : Rows0 H0 H a rs m) (nl : H l = none) (np : upd H l lo p = none) :
    Rows0 H0 (upd (upd (upd H l lo) p (.lst (List.replicate m (.int 0)))) a (.lst (rs.map V.ref ++ [.ref p]))) a (rs ++ [p]) m := by
  have np1 : p ≠ l := fun z => by
    rw [z, upd_same] at np
    cases np
  have np0 : H p = none := by
    rw [upd_ne np1] at np
    exact np
  have nd := List.nodup_cons.mp t.nd
  have pa : a ≠ p := ne_of_none t.top np0
  have la : a ≠ l := ne_of_none t.top nl
  have pr : ∀ r, r ∈ rs → r ≠ p := fun r hr => ne_of_none (t.row r hr) np0
  have lr : ∀ r, r ∈ rs → r ≠ l := fun r hr => ne_of_none (t.row r hr) nl
  refine ⟨?_, ?_, fun r hr => ?_, ?_, fun r hr => ?_⟩
  · rw [upd_same, List.map_append]
    rfl
  · refine List.nodup_cons.mpr ⟨fun z => ?_, List.nodup_append.mpr ⟨nd.2, by simp, fun x hx y hy => ?_⟩⟩
    · rcases List.mem_append.mp z with z | z
      · exact nd.1 z
      · exact pa (List.mem_singleton.mp z)
    · rw [List.mem_singleton.mp hy]
      exact pr x hx
  · rcases List.mem_cons.mp hr with z | z
    · exact t.fresh r (z ▸ List.mem_cons_self ..)
    · rcases List.mem_append.mp z with z | z
      · exact t.fresh r (List.mem_cons_of_mem _ z)
      · rw [List.mem_singleton.mp z]
        exact t.same.free np0
  · refine But.same (t.fresh a (List.mem_cons_self ..)) ((t.same.trans (same_new nl)).trans (same_new np)) But.upd
  · rcases List.mem_append.mp hr with z | z
    · have ra : r ≠ a := fun e => nd.1 (e ▸ z)
      rw [upd_ne ra, upd_ne (pr r z), upd_ne (lr r z)]
      exact t.row r z
    · rw [List.mem_singleton.mp z, upd_ne pa.symm, upd_same]
theorem Rows0.grid {H0 H : Hp} {a : Addr} {rs : List Addr} {m : Nat} (t : Rows0 H0 H a rs m) : Grid H a rs m (fun _ _ => 0) :=
  ⟨t.top, t.nd, fun i r e => by
    rw [t.row r (List.mem_of_getElem? e)]
    congr 2
    refine List.ext_getElem? fun k => ?_
    by_cases hk : k < m
    · rw [List.getElem?_map, List.getElem?_range hk, List.getElem?_replicate, if_pos hk]
      rfl
    · rw [List.getElem?_eq_none (by rw [List.length_replicate]; omega), List.getElem?_eq_none (by rw [List.length_map, List.length_range]; omega)]⟩
theorem flat_one (n : Nat) (v : V) : (List.replicate n [v]).flatten = List.replicate n v := by
  induction n with
  | zero => rfl
  | succ n ih => rw [List.replicate_succ, List.flatten_cons, ih, List.replicate_succ] <;> rfl
end L2

namespace K11
open PySem PySem.Spec PyProof.Rows L2
local macro_rules | `(tactic| walk_at "rd") => `(tactic| repeat (first
  | refine ⟨_, rfl, ?_⟩
  | refine ⟨_, _, rfl, rfl, ?_⟩
  | refine ⟨_, _, _, _, rfl, rfl, SqL.lst (by first | assumption | exact upd_same), rfl, ?_⟩
  | refine ⟨_, _, _, _, rfl, rfl, (by first | assumption | exact upd_same), rfl, ?_⟩
  | refine Or.inl ⟨_, rfl, ?_⟩
  | refine ⟨_, _, rfl, (by assumption), ?_⟩
  | refine ⟨by first | exact ⟨by decide, by decide, by decide⟩ | exact wide_mul (a := 64) (b := 64) (by omega) (by omega) (by decide) (by decide) (by decide) | exact wide_div (b := 64) (by omega) (by omega) (by decide) (by decide) | (show (0 : Int) < _; omega), ?_⟩))

def spTalks : Sp := fun vs H Q _ => ∃ xs ys : List Bool, vs = [.str (rowS xs), .str (rowS ys)] ∧ 0 < xs.length ∧ xs.length ≤ 900 ∧ ys.length ≤ 900 ∧
  ∀ p H', H p = none → Same H H' → H' p = some (.lst [.int (Yf xs ys xs.length ys.length), .int (Xf xs ys xs.length ys.length)]) → Q (.ref p) H'
/-- the tables as far as they are filled: all rows below u, and row u up to s -/
def FX (xs ys : List Bool) (u s i j : Nat) : Int := if i < u ∨ (i = u ∧ j < s) then Xf xs ys i j else if i = 1 ∧ j = 0 then 1 else 0
def FY (xs ys : List Bool) (u s i j : Nat) : Int := if i < u ∨ (i = u ∧ j < s) then Yf xs ys i j else 0
/-- both tables -/
structure Two (H0 H : Hp) (ax ay : Addr) (rx ry : List Addr) (n m : Nat) (f g : Nat → Nat → Int) : Prop where
  gx : Grid H ax rx m f
  gy : Grid H ay ry m g
  same : Same H0 H
  lx : rx.length = n
  ly : ry.length = n
  fx : ∀ r, r ∈ ax :: rx → H0 r = none
  fy : ∀ r, r ∈ ay :: ry → H0 r = none
  apart : ∀ r, r ∈ ax :: rx → r ∉ ay :: ry
section
variable {H0 H : Hp} {ax ay : Addr} {rx ry : List Addr} {n m : Nat} {f g f' g' : Nat → Nat → Int}
theorem Two.congr (t : Two H0 H ax ay rx ry n m f g) (e1 : ∀ i j, i < n → j < m → f i j = f' i j) (e2 : ∀ i j, i < n → j < m → g i j = g' i j) : Two H0 H ax ay rx ry n m f' g' :=
  ⟨t.gx.congr (by rw [t.lx]; exact e1), t.gy.congr (by rw [t.ly]; exact e2), t.same, t.lx, t.ly, t.fx, t.fy, t.apart⟩
theorem Two.rowx (t : Two H0 H ax ay rx ry n m f g) {i : Nat} (h : i < n) : ∃ r, rx[i]? = some r := ⟨rx[i]'(by rw [t.lx]; exact h), List.getElem?_eq_getElem _⟩
theorem Two.rowy (t : Two H0 H ax ay rx ry n m f g) {i : Nat} (h : i < n) : ∃ r, ry[i]? = some r := ⟨ry[i]'(by rw [t.ly]; exact h), List.getElem?_eq_getElem _⟩
theorem Two.putx {i j : Nat} {r : Addr} {v : Int} (t : Two H0 H ax ay rx ry n m f g) (h : rx[i]? = some r) (e1 : ∀ x y, x < n → y < m → (if x = i ∧ y = j then v else f x y) = f' x y) :
    Two H0 (upd H r (.lst (((List.range m).map fun j => V.int (f i j)).set j (.int v)))) ax ay rx ry n m f' g := by
  have hm : r ∈ ax :: rx := List.mem_cons_of_mem _ (List.mem_of_getElem? h)
  exact ⟨(t.gx.put h).congr (by rw [t.lx]; exact e1), t.gy.out (t.apart r hm), But.same (t.fx r hm) t.same But.upd, t.lx, t.ly, t.fx, t.fy, t.apart⟩
theorem Two.puty {i j : Nat} {r : Addr} {v : Int} (t : Two H0 H ax ay rx ry n m f g) (h : ry[i]? = some r) (e1 : ∀ x y, x < n → y < m → (if x = i ∧ y = j then v else g x y) = g' x y) :
    Two H0 (upd H r (.lst (((List.range m).map fun j => V.int (g i j)).set j (.int v)))) ax ay rx ry n m f g' := by
  have hm : r ∈ ay :: ry := List.mem_cons_of_mem _ (List.mem_of_getElem? h)
  exact ⟨t.gx.out (fun z => t.apart r z hm), (t.gy.put h).congr (by rw [t.ly]; exact e1), But.same (t.fy r hm) t.same But.upd, t.lx, t.ly, t.fx, t.fy, t.apart⟩
end
section
variable {P : Program} {w : World} {K : PySem.W.Frag} {mg : Str → Option Value} {base : Heap}
theorem ok__law_talks (T : TX K mg) : FnOk P w K mg base CX0 1 T.a__law_talks T.d__law_talks p__law_talks spTalks := by
  refine T.F__law_talks.ok sc__law_talks (fun vs H Q E h => ?_) (fun cdv A outer s H vs Q E hr h => ?_)
  · obtain ⟨xs, ys, rfl, _⟩ := h
    rfl
  · obtain ⟨xs, ys, rfl, hx0, hx, hy, q⟩ := h
    have zx : (rowS xs).length ≤ sizeLine := by rw [rowS_len]; exact Nat.le_of_lt (small1000 (by omega))
    have zy : (rowS ys).length ≤ sizeLine := by rw [rowS_len]; exact Nat.le_of_lt (small1000 (by omega))
    have ex : (((rowS xs).length : Int) + 1).toNat = xs.length + 1 := by rw [rowS_len]; omega
    have ey : (((rowS ys).length : Int) + 1).toNat = ys.length + 1 := by rw [rowS_len]; omega
    have bx : -(2 ^ 62) ≤ ((rowS xs).length : Int) + 1 ∧ ((rowS xs).length : Int) + 1 < 2 ^ 62 := by rw [rowS_len]; omega
    have by' : -(2 ^ 62) ≤ ((rowS ys).length : Int) + 1 ∧ ((rowS ys).length : Int) + 1 < 2 ^ 62 := by rw [rowS_len]; omega
    refine ⟨_, (pss_cons (ps_setLc (i := 2) (own := [("k", 7)]) (g := gName 7) (by rfl) sc__law_talks.nd rfl rfl (sw_true rfl rfl rfl (by decide +kernel)) (pi_range1 (by rfl) T.m_range (pa_cons (pe_op op_add (pe_callB call_len_str (by rfl) T.m_len PySem.boot_len (pa_cons (pv 0) pa_nil)) pe_int) pa_nil)) (blkOk_by (own := [("k", 7)]) (N := n__law_talks) (sc := defScope s__law_talks) (by decide +kernel)) (fun _ _ _ _ _ => (pg_name (i := 7) sc__law_talks.nd rfl (Or.inl rfl))) (fun _ _ _ _ _ => pts_nil) (fun _ _ _ _ _ => (pe_op op_rep (pe_lst (pa_cons pe_int pa_nil)) (pe_op op_add (pe_callB call_len_str (by rfl) T.m_len PySem.boot_len (pa_cons (pv 1) pa_nil)) pe_int))))
      (pss_cons (ps_setLc (i := 3) (own := [("k", 7)]) (g := gName 7) (by rfl) sc__law_talks.nd rfl rfl (sw_true rfl rfl rfl (by decide +kernel)) (pi_range1 (by rfl) T.m_range (pa_cons (pe_op op_add (pe_callB call_len_str (by rfl) T.m_len PySem.boot_len (pa_cons (pv 0) pa_nil)) pe_int) pa_nil)) (blkOk_by (own := [("k", 7)]) (N := n__law_talks) (sc := defScope s__law_talks) (by decide +kernel)) (fun _ _ _ _ _ => (pg_name (i := 7) sc__law_talks.nd rfl (Or.inl rfl))) (fun _ _ _ _ _ => pts_nil) (fun _ _ _ _ _ => (pe_op op_rep (pe_lst (pa_cons pe_int pa_nil)) (pe_op op_add (pe_callB call_len_str (by rfl) T.m_len PySem.boot_len (pa_cons (pv 1) pa_nil)) pe_int))))
      (pss_cons (ps_asg pe_int (pg_sub (pe_ix ix_list (pv 2) pe_int (fun _ _ => rfl)) pe_int set_list))
      (pss_cons (ps_for PassesOwn.never rfl (pi_range2 (by rfl) T.m_range (pa_cons pe_int (pa_cons (pe_op op_add (pe_callB call_len_str (by rfl) T.m_len PySem.boot_len (pa_cons (pv 0) pa_nil)) pe_int) pa_nil))) (pg_name (i := 4) sc__law_talks.nd rfl (Or.inl rfl))
      (pss_one (ps_for PassesOwn.never rfl (pi_range1 (by rfl) T.m_range (pa_cons (pe_op op_add (pe_callB call_len_str (by rfl) T.m_len PySem.boot_len (pa_cons (pv 1) pa_nil)) pe_int) pa_nil)) (pg_name (i := 5) sc__law_talks.nd rfl (Or.inl rfl))
      (pss_cons (ps_set (i := 6) sc__law_talks.nd rfl (Or.inl rfl) pe_int)
      (Evl.pss_cut (ps_if (pt_cmpR op_gt (pv 4) pe_int (nomark _))
      (pss_cons (ps_set (i := 6) sc__law_talks.nd rfl (Or.inl rfl) (pe_ix ix_list (pe_ix ix_list (pv 3) (pe_op op_sub (pv 4) pe_int) (fun _ _ => rfl)) (pv 5) (fun _ _ => rfl)))
      (pss_cons (ps_if (pt_cmpR op_eq (pe_ix ix_str (pv 0) (pe_op op_sub (pv 4) pe_int) (fun _ _ => rfl)) pe_str (nomark _))
      (pss_one (ps_set (i := 6) sc__law_talks.nd rfl (Or.inl rfl) (pe_op op_add (pv 6) (pe_ix ix_list (pe_ix ix_list (pv 2) (pe_op op_sub (pv 4) pe_int) (fun _ _ => rfl)) (pv 5) (fun _ _ => rfl)))))
      pss_nil)
      (pss_one (ps_asg (pv 6) (pg_sub (pe_ix ix_list (pv 2) (pv 4) (fun _ _ => rfl)) (pv 5) set_list)))))
      pss_nil)
      (pss_one (ps_if (pt_cmpR op_gt (pv 5) pe_int (nomark _))
      (pss_cons (ps_set (i := 6) sc__law_talks.nd rfl (Or.inl rfl) (pe_ix ix_list (pe_ix ix_list (pv 2) (pv 4) (fun _ _ => rfl)) (pe_op op_sub (pv 5) pe_int) (fun _ _ => rfl)))
      (pss_cons (ps_if (pt_cmpR op_eq (pe_ix ix_str (pv 1) (pe_op op_sub (pv 5) pe_int) (fun _ _ => rfl)) pe_str (nomark _))
      (pss_one (ps_set (i := 6) sc__law_talks.nd rfl (Or.inl rfl) (pe_op op_add (pv 6) (pe_ix ix_list (pe_ix ix_list (pv 3) (pv 4) (fun _ _ => rfl)) (pe_op op_sub (pv 5) pe_int) (fun _ _ => rfl)))))
      pss_nil)
      (pss_one (ps_asg (pv 6) (pg_sub (pe_ix ix_list (pv 3) (pv 4) (fun _ _ => rfl)) (pv 5) set_list)))))
      pss_nil)))))))
      (pss_one (ps_ret (pe_lst (pa_cons (pe_ix ix_list (pe_ix ix_list (pv 3) (pe_callB call_len_str (by rfl) T.m_len PySem.boot_len (pa_cons (pv 0) pa_nil)) (fun _ _ => rfl)) (pe_callB call_len_str (by rfl) T.m_len PySem.boot_len (pa_cons (pv 1) pa_nil)) (fun _ _ => rfl)) (pa_cons (pe_ix ix_list (pe_ix ix_list (pv 2) (pe_callB call_len_str (by rfl) T.m_len PySem.boot_len (pa_cons (pv 0) pa_nil)) (fun _ _ => rfl)) (pe_callB call_len_str (by rfl) T.m_len PySem.boot_len (pa_cons (pv 1) pa_nil)) (fun _ _ => rfl)) pa_nil))))))))), ?_⟩
    have turn : ∀ {H0 H1 : Hp} {D l p : Addr} {rs : List Addr} {i : Nat}, rs.length = i → i ≤ 1000 → Rows0 H0 H1 D rs (ys.length + 1) → H1 l = none → upd H1 l (.lst [.int 0]) p = none →
        ∃ acc, upd (upd H1 l (.lst [.int 0])) p (.lst (List.replicate (((rowS ys).length : Int) + 1).toNat [V.int 0]).flatten) D = some (.lst acc) ∧ acc.length < sizeLine ∧
          ∃ rs', rs'.length = i + 1 ∧ Rows0 H0 (upd (upd (upd H1 l (.lst [.int 0])) p (.lst (List.replicate (((rowS ys).length : Int) + 1).toNat [V.int 0]).flatten)) D (.lst (acc ++ [.ref p]))) D rs' (ys.length + 1) := by
      intro H0 H1 D l p rs i e0 hi t nl np
      have np0 : H1 p = none := by
        by_cases z : p = l
        · rw [z]; exact nl
        · rw [upd_ne z] at np; exact np
      refine ⟨rs.map V.ref, ?_, by rw [List.length_map, e0]; exact small1000 hi, rs ++ [p], by rw [List.length_append, e0] <;> rfl, ?_⟩
      · rw [upd_ne (ne_of_none t.top np0), upd_ne (ne_of_none t.top nl)]
        exact t.top
      · rw [flat_one, ey]
        exact t.step nl np
    -- on_x
    refine ⟨_, rfl, _, rfl, zx, _, _, rfl, rfl, _, rfl, bx.1, bx.2, fun ax nax => ?_⟩
    refine lc_range (lo := 0) (n := (((rowS xs).length : Int) + 1).toNat) (fun i H' => ∃ rs, rs.length = i ∧ Rows0 H H' ax rs (ys.length + 1)) ⟨[], rfl, Rows0.start nax⟩ (fun i H1 hi w => ?_) (fun H1 w => ?_)
    · obtain ⟨rs, e0, t⟩ := w
      rw [ex] at hi
      exact ⟨rfl, yes_if ⟨by show 1 ≤ sizeLine; decide, fun l nl => ⟨_, rfl, _, rfl, zy, _, _, rfl, rfl, l, _, _, rfl, rfl, upd_same, by omega, by omega, by
        rw [ey]
        exact Nat.le_of_lt (small1000 (by show 1 * _ ≤ 1000; omega)), fun p np => turn e0 (by omega) t nl np⟩⟩⟩
    rw [ex] at w
    obtain ⟨rx, lx, tx⟩ := w
    -- on_y
    refine ⟨_, rfl, _, rfl, zx, _, _, rfl, rfl, _, rfl, bx.1, bx.2, fun ay nay => ?_⟩
    refine lc_range (lo := 0) (n := (((rowS xs).length : Int) + 1).toNat) (fun i H' => ∃ rs, rs.length = i ∧ Rows0 H1 H' ay rs (ys.length + 1)) ⟨[], rfl, Rows0.start nay⟩ (fun i H1 hi w => ?_) (fun H2 w => ?_)
    · obtain ⟨rs, e0, t⟩ := w
      rw [ex] at hi
      exact ⟨rfl, yes_if ⟨by show 1 ≤ sizeLine; decide, fun l nl => ⟨_, rfl, _, rfl, zy, _, _, rfl, rfl, l, _, _, rfl, rfl, upd_same, by omega, by omega, by
        rw [ey]
        exact Nat.le_of_lt (small1000 (by show 1 * _ ≤ 1000; omega)), fun p np => turn e0 (by omega) t nl np⟩⟩⟩
    rw [ex] at w
    obtain ⟨ry, ly, ty⟩ := w
    have known : ∀ r, r ∈ ax :: rx → ∃ o, H1 r = some o := fun r hr => by
      rcases List.mem_cons.mp hr with e | e
      · exact ⟨_, e ▸ tx.top⟩
      · exact ⟨_, tx.row r e⟩
    have two : Two H H2 ax ay rx ry (xs.length + 1) (ys.length + 1) (fun _ _ => 0) (fun _ _ => 0) :=
      ⟨tx.grid.same ty.same, ty.grid, tx.same.trans ty.same, lx, ly, tx.fresh, fun r hr => tx.same.free (ty.fresh r hr), fun r hr z => by
        obtain ⟨o, e⟩ := known r hr
        rw [ty.fresh r z] at e
        cases e⟩
    -- on_x[1][0] = 1
    obtain ⟨r1, hr1⟩ := two.rowx (i := 1) (by omega)
    refine ⟨_, rfl, _, _, _, _, rfl, rfl, SqL.lst two.gx.top, at_ref (i := 1) hr1, ?_⟩
    refine ⟨r1, _, 0, 0, rfl, rfl, two.gx.row 1 r1 hr1, ixN_nat (j := 0) (by rw [List.length_map, List.length_range]; omega), ?_⟩
    have t1 : Two H _ ax ay rx ry (xs.length + 1) (ys.length + 1) (FX xs ys 1 0) (FY xs ys 1 0) := (two.putx (j := 0) (v := 1) hr1 (f' := FX xs ys 1 0) (fun x y _ _ => by
      unfold FX
      by_cases e : x = 1 ∧ y = 0
      · rw [if_pos e, if_neg (show ¬ (x < 1 ∨ (x = 1 ∧ y < 0)) by omega)]
      · rw [if_neg e]
        by_cases e2 : x < 1 ∨ (x = 1 ∧ y < 0)
        · rw [if_pos e2]
          unfold Xf
          rw [if_pos (show x = 0 by omega)]
        · rw [if_neg e2])).congr (fun _ _ _ _ => rfl) (fun x y _ _ => by
      unfold FY
      by_cases e2 : x < 1 ∨ (x = 1 ∧ y < 0)
      · rw [if_pos e2]
        unfold Yf
        rw [if_pos (show x = 0 ∨ y = 0 by omega)]
      · rw [if_neg e2])
    have eo : (((rowS xs).length : Int) + 1 - 1).toNat = xs.length := by rw [rowS_len]; omega
    refine ⟨_, rfl, _, rfl, zx, _, _, rfl, rfl, _, _, rfl, ⟨by decide, by decide, bx.1, bx.2⟩, ?_⟩
    refine for_range (lo := 1) (n := (((rowS xs).length : Int) + 1 - 1).toNat) (fun i σ H' => ∃ y4 y5 y6 y7 : Option V, σ = [some (.str (rowS xs)), some (.str (rowS ys)), some (.ref ax), some (.ref ay), y4, y5, y6, y7] ∧ Two H H' ax ay rx ry (xs.length + 1) (ys.length + 1) (FX xs ys (i + 1) 0) (FY xs ys (i + 1) 0)) ⟨none, none, none, none, rfl, t1⟩ (fun i σ H3 hi w => ?_) (fun σ H3 w => ?_)
    · rw [eo] at hi
      obtain ⟨y4, y5, y6, y7, rfl, t2⟩ := w
      have one : ∃ b, xs[i]? = some b := ⟨xs[i], List.getElem?_eq_getElem hi⟩
      obtain ⟨b, hb⟩ := one
      obtain ⟨q1, hq1⟩ := t2.rowx (i := i) (by omega)
      obtain ⟨q2, hq2⟩ := t2.rowx (i := i + 1) (by omega)
      obtain ⟨p1, hp1⟩ := t2.rowy (i := i) (by omega)
      obtain ⟨p2, hp2⟩ := t2.rowy (i := i + 1) (by omega)
      refine ⟨_, rfl, _, rfl, zy, _, _, rfl, rfl, _, rfl, by'.1, by'.2, ?_⟩
      refine for_range (lo := 0) (n := (((rowS ys).length : Int) + 1).toNat) (fun s σ H' => ∃ y5 y6 : Option V, σ = [some (.str (rowS xs)), some (.str (rowS ys)), some (.ref ax), some (.ref ay), some (.int (1 + (i : Int))), y5, y6, y7] ∧ Two H H' ax ay rx ry (xs.length + 1) (ys.length + 1) (FX xs ys (i + 1) s) (FY xs ys (i + 1) s)) ⟨_, _, rfl, t2⟩ (fun s σ H4 hs w => ?_) (fun σ H4 w => ?_)
      · rw [ey] at hs
        obtain ⟨y5, y6, rfl, t3⟩ := w
        refine ⟨fun σ' H' => ∃ y6 : Option V, σ' = [some (.str (rowS xs)), some (.str (rowS ys)), some (.ref ax), some (.ref ay), some (.int (1 + (i : Int))), some (.int (0 + (s : Int))), y6, y7] ∧ Two H H' ax ay rx ry (xs.length + 1) (ys.length + 1) (FX xs ys (i + 1) (s + 1)) (FY xs ys (i + 1) s), ?_, fun σ' H' w => ?_⟩
        · -- the first table
          refine ⟨_, rfl, _, _, rfl, rfl, _, rfl, ?_⟩
          refine iteB (fun e => ?_) (fun e => ?_)
          · have e1 : (1 : Int) < 1 + (i : Int) := of_decide_eq_true e
            have vY : FY xs ys (i + 1) s i s = Yf xs ys i s := if_pos (.inl (by omega))
            have vX : FX xs ys (i + 1) s i s = Xf xs ys i s := if_pos (.inl (by omega))
            have st := X_step (xs := xs) (ys := ys) (i := i) (j := s) (by omega) hb
            have fin : ∀ v : Int, v = Xf xs ys (i + 1) s → Two H (upd H4 q2 (.lst (((List.range (ys.length + 1)).map fun j => V.int (FX xs ys (i + 1) s (i + 1) j)).set s (.int v)))) ax ay rx ry (xs.length + 1) (ys.length + 1) (FX xs ys (i + 1) (s + 1)) (FY xs ys (i + 1) s) := fun v hv =>
              t3.putx (j := s) (v := v) hq2 (fun x y _ _ => by
                unfold FX
                by_cases e : x = i + 1 ∧ y = s
                · rw [if_pos e, if_pos (show x < i + 1 ∨ (x = i + 1 ∧ y < s + 1) by omega), e.1, e.2]
                  exact hv
                · rw [if_neg e]
                  by_cases e2 : x < i + 1 ∨ (x = i + 1 ∧ y < s)
                  · rw [if_pos e2, if_pos (show x < i + 1 ∨ (x = i + 1 ∧ y < s + 1) by omega)]
                  · rw [if_neg e2, if_neg (show ¬ (x < i + 1 ∨ (x = i + 1 ∧ y < s + 1)) by omega)])
            refine ⟨_, rfl, _, rfl, _, _, rfl, rfl, ay, _, _, .ref p1, rfl, rfl, SqL.lst t3.gy.top, at_refE i hp1 (by omega), _, rfl, p1, _, _, _, rfl, rfl, SqL.lst (t3.gy.row i p1 hp1), at_rowE s hs (by omega), ?_⟩
            rw [vY]
            refine ⟨_, rfl, _, rfl, _, _, rfl, rfl, _, _, rowC b, rfl, rfl, zx, by rw [show 1 + (i : Int) - 1 = (i : Int) by omega]; exact row_at hb, rfl, _, rfl, ?_⟩
            rw [sign_h]
            cases b with
            | false =>
              refine iteT ⟨_, rfl, _, rfl, _, rfl, _, _, rfl, rfl, ax, _, _, .ref q1, rfl, rfl, SqL.lst t3.gx.top, at_refE i hq1 (by omega), _, rfl, q1, _, _, _, rfl, rfl, SqL.lst (t3.gx.row i q1 hq1), at_rowE s hs (by omega), ?_⟩
              rw [vX]
              refine ⟨_, _, rfl, rfl, _, rfl, _, rfl, _, rfl, ax, _, _, .ref q2, rfl, rfl, SqL.lst t3.gx.top, at_refE (i + 1) hq2 (by omega), _, rfl, q2, _, _, s, rfl, rfl, t3.gx.row (i + 1) q2 hq2, ixN_E s (by rw [List.length_map, List.length_range]; exact hs) (by omega), ?_⟩
              exact ⟨_, rfl, fin _ (by rw [st]; rfl)⟩
            | true =>
              refine iteF ⟨_, rfl, _, rfl, _, rfl, ax, _, _, .ref q2, rfl, rfl, SqL.lst t3.gx.top, at_refE (i + 1) hq2 (by omega), _, rfl, q2, _, _, s, rfl, rfl, t3.gx.row (i + 1) q2 hq2, ixN_E s (by rw [List.length_map, List.length_range]; exact hs) (by omega), ?_⟩
              exact ⟨_, rfl, fin _ (by rw [st]; simp)⟩
          · have e1 : ¬ (1 : Int) < 1 + (i : Int) := of_decide_eq_false e
            have i0 : i = 0 := by omega
            subst i0
            refine ⟨_, rfl, t3.congr (fun x y _ _ => ?_) (fun _ _ _ _ => rfl)⟩
            unfold FX
            by_cases e2 : x < 0 + 1 ∨ (x = 0 + 1 ∧ y < s)
            · rw [if_pos e2, if_pos (show x < 0 + 1 ∨ (x = 0 + 1 ∧ y < s + 1) by omega)]
            · rw [if_neg e2]
              by_cases e3 : x = 0 + 1 ∧ y = s
              · rw [if_pos (show x < 0 + 1 ∨ (x = 0 + 1 ∧ y < s + 1) by omega), e3.1, e3.2]
                by_cases s0 : s = 0
                · subst s0
                  rw [if_pos ⟨rfl, rfl⟩, X_one_zero]
                · rw [if_neg (fun z => s0 z.2), X_one (by omega)]
              · rw [if_neg (show ¬ (x < 0 + 1 ∨ (x = 0 + 1 ∧ y < s + 1)) by omega)]
        · -- the second table
          obtain ⟨y6, rfl, t4⟩ := w
          refine ⟨_, rfl, _, _, rfl, rfl, _, rfl, ?_⟩
          refine iteB (fun e => ?_) (fun e => ?_)
          · have e1 : (0 : Int) < 0 + (s : Int) := of_decide_eq_true e
            obtain ⟨t, rfl⟩ : ∃ t, s = t + 1 := ⟨s - 1, by omega⟩
            obtain ⟨c, hc⟩ : ∃ c, ys[t]? = some c := ⟨ys[t], List.getElem?_eq_getElem (by omega)⟩
            have vX : FX xs ys (i + 1) (t + 1 + 1) (i + 1) t = Xf xs ys (i + 1) t := if_pos (.inr ⟨rfl, by omega⟩)
            have vY : FY xs ys (i + 1) (t + 1) (i + 1) t = Yf xs ys (i + 1) t := if_pos (.inr ⟨rfl, by omega⟩)
            have st := Y_step (xs := xs) (ys := ys) (i := i + 1) (j := t) (by omega) hc
            have fin : ∀ v : Int, v = Yf xs ys (i + 1) (t + 1) → Two H (upd H' p2 (.lst (((List.range (ys.length + 1)).map fun j => V.int (FY xs ys (i + 1) (t + 1) (i + 1) j)).set (t + 1) (.int v)))) ax ay rx ry (xs.length + 1) (ys.length + 1) (FX xs ys (i + 1) (t + 1 + 1)) (FY xs ys (i + 1) (t + 1 + 1)) := fun v hv =>
              t4.puty (j := t + 1) (v := v) hp2 (fun x y _ _ => by
                unfold FY
                by_cases e : x = i + 1 ∧ y = t + 1
                · rw [if_pos e, if_pos (show x < i + 1 ∨ (x = i + 1 ∧ y < t + 1 + 1) by omega), e.1, e.2]
                  exact hv
                · rw [if_neg e]
                  by_cases e2 : x < i + 1 ∨ (x = i + 1 ∧ y < t + 1)
                  · rw [if_pos e2, if_pos (show x < i + 1 ∨ (x = i + 1 ∧ y < t + 1 + 1) by omega)]
                  · rw [if_neg e2, if_neg (show ¬ (x < i + 1 ∨ (x = i + 1 ∧ y < t + 1 + 1)) by omega)])
            refine ⟨_, rfl, _, rfl, ax, _, _, .ref q2, rfl, rfl, SqL.lst t4.gx.top, at_refE (i + 1) hq2 (by omega), _, rfl, _, _, rfl, rfl, q2, _, _, _, rfl, rfl, SqL.lst (t4.gx.row (i + 1) q2 hq2), at_rowE t (by omega) (by omega), ?_⟩
            rw [vX]
            refine ⟨_, rfl, _, rfl, _, _, rfl, rfl, _, _, rowC c, rfl, rfl, zy, by rw [show 0 + ((t + 1 : Nat) : Int) - 1 = (t : Int) by omega]; exact row_at hc, rfl, _, rfl, ?_⟩
            rw [sign_h]
            cases c with
            | false =>
              refine iteT ⟨_, rfl, _, rfl, _, rfl, ay, _, _, .ref p2, rfl, rfl, SqL.lst t4.gy.top, at_refE (i + 1) hp2 (by omega), _, rfl, _, _, rfl, rfl, p2, _, _, _, rfl, rfl, SqL.lst (t4.gy.row (i + 1) p2 hp2), at_rowE t (by omega) (by omega), ?_⟩
              rw [vY]
              refine ⟨_, _, rfl, rfl, _, rfl, _, rfl, _, rfl, ay, _, _, .ref p2, rfl, rfl, SqL.lst t4.gy.top, at_refE (i + 1) hp2 (by omega), _, rfl, p2, _, _, t + 1, rfl, rfl, t4.gy.row (i + 1) p2 hp2, ixN_E (t + 1) (by rw [List.length_map, List.length_range]; omega) (by omega), ?_⟩
              exact ⟨_, _, rfl, fin _ (by rw [st]; rfl)⟩
            | true =>
              refine iteF ⟨_, rfl, _, rfl, _, rfl, ay, _, _, .ref p2, rfl, rfl, SqL.lst t4.gy.top, at_refE (i + 1) hp2 (by omega), _, rfl, p2, _, _, t + 1, rfl, rfl, t4.gy.row (i + 1) p2 hp2, ixN_E (t + 1) (by rw [List.length_map, List.length_range]; omega) (by omega), ?_⟩
              exact ⟨_, _, rfl, fin _ (by rw [st]; simp)⟩
          · have e1 : ¬ (0 : Int) < 0 + (s : Int) := of_decide_eq_false e
            obtain rfl : s = 0 := by omega
            refine ⟨_, _, rfl, t4.congr (fun _ _ _ _ => rfl) (fun x y _ _ => ?_)⟩
            unfold FY
            by_cases e2 : x < i + 1 ∨ (x = i + 1 ∧ y < 0)
            · rw [if_pos e2, if_pos (show x < i + 1 ∨ (x = i + 1 ∧ y < 0 + 1) by omega)]
            · rw [if_neg e2]
              by_cases e3 : x = i + 1 ∧ y = 0
              · rw [if_pos (show x < i + 1 ∨ (x = i + 1 ∧ y < 0 + 1) by omega), e3.2, Y_zero]
              · rw [if_neg (show ¬ (x < i + 1 ∨ (x = i + 1 ∧ y < 0 + 1)) by omega)]
      · rw [ey] at w
        obtain ⟨y5, y6, rfl, t3⟩ := w
        refine ⟨_, _, _, _, rfl, t3.congr (fun x y _ hy => ?_) (fun x y _ hy => ?_)⟩
        · unfold FX
          by_cases e : x < i + 1 ∨ (x = i + 1 ∧ y < ys.length + 1)
          · rw [if_pos e, if_pos (show x < i + 1 + 1 ∨ (x = i + 1 + 1 ∧ y < 0) by omega)]
          · rw [if_neg e, if_neg (show ¬ (x < i + 1 + 1 ∨ (x = i + 1 + 1 ∧ y < 0)) by omega)]
        · unfold FY
          by_cases e : x < i + 1 ∨ (x = i + 1 ∧ y < ys.length + 1)
          · rw [if_pos e, if_pos (show x < i + 1 + 1 ∨ (x = i + 1 + 1 ∧ y < 0) by omega)]
          · rw [if_neg e, if_neg (show ¬ (x < i + 1 + 1 ∨ (x = i + 1 + 1 ∧ y < 0)) by omega)]
    · rw [eo] at w
      obtain ⟨y4, y5, y6, y7, rfl, t3⟩ := w
      obtain ⟨qn, hqn⟩ := t3.rowx (i := xs.length) (by omega)
      obtain ⟨pn, hpn⟩ := t3.rowy (i := xs.length) (by omega)
      have vX : FX xs ys (xs.length + 1) 0 xs.length ys.length = Xf xs ys xs.length ys.length := if_pos (.inl (by omega))
      have vY : FY xs ys (xs.length + 1) 0 xs.length ys.length = Yf xs ys xs.length ys.length := if_pos (.inl (by omega))
      have jx : ((rowS xs).length : Int) = (xs.length : Int) := by rw [rowS_len]
      have jy : ((rowS ys).length : Int) = (ys.length : Int) := by rw [rowS_len]
      refine ⟨_, rfl, _, rfl, _, rfl, zx, ay, _, _, .ref pn, rfl, rfl, SqL.lst t3.gy.top, at_refE xs.length hpn jx, _, rfl, _, rfl, zy, pn, _, _, _, rfl, rfl, SqL.lst (t3.gy.row xs.length pn hpn), at_rowE ys.length (by omega) jy, ?_⟩
      refine ⟨_, rfl, _, rfl, _, rfl, zx, ax, _, _, .ref qn, rfl, rfl, SqL.lst t3.gx.top, at_refE xs.length hqn jx, _, rfl, _, rfl, zy, qn, _, _, _, rfl, rfl, SqL.lst (t3.gx.row xs.length qn hqn), at_rowE ys.length (by omega) jy, by show 2 ≤ sizeLine; decide, fun p np => ?_⟩
      rw [vX, vY]
      exact q p _ (t3.same.free np) (t3.same.trans (same_new np)) upd_same
end
end K11

namespace L2
open PySem PySem.Spec PyProof.Rows
section
variable {X : Cx}
/-! ### how many items of a list of truth values are this one -/
def bqk (c : Bool) (v : Value) : Bool := match v with
  | .bool d => d == c
  | _ => false
theorem bqk_at {c : Bool} : ∀ {us : List Value} {bs : List Bool}, Vals (bs.map V.bl) us → (∀ y, y ∈ us → ∃ d, y = .bool d) ∧ us.countP (bqk c) = bs.count c
  | us, [], h => by
    cases h
    exact ⟨fun y hy => (List.not_mem_nil hy).elim, rfl⟩
  | us, b :: bs, h => by
    cases h with
    | cons r t =>
      have ih := bqk_at (c := c) t
      cases (show _ = Value.bool b from r)
      refine ⟨fun y hy => ?_, ?_⟩
      · rcases List.mem_cons.mp hy with e | e
        · exact ⟨b, e⟩
        · exact ih.1 y e
      · rw [List.countP_cons, List.count_cons, ih.2]
        rfl
def rCntB (K : PySem.W.Frag) : V → List V → Hp → VK → Prop := fun x xs H Q => ∃ (p : Addr) (bs : List Bool) (c : Bool), x = .ref p ∧ xs = [.bl c] ∧ SqL K H p (bs.map V.bl) ∧ Q (.int (bs.count c : Nat)) H
theorem mt_bcount : MtR X "list.count" (rCntB X.K) := by
  intro pl sh st Hh xv xl vv ul Qw I rx rl h
  obtain ⟨p, bs, c, rfl, rfl, hs, q⟩ := h
  cases rx
  obtain ⟨u, rfl, ru⟩ := rl.one
  cases (show u = Value.bool c from ru)
  obtain ⟨its, rv, ⟨⟨kl, dd, dt, sl⟩, n, ho, hc, hdn, hd⟩, _⟩ := I.list hs
  simp only at hc hd
  subst hc hd
  have hb := bqk_at (c := c) rv
  refine call_meets PySem.F.slot_list_count ⟨_, ho, rfl⟩ PySem.F.entry_list_count (PySem.F.args_list_count_2 _ _) (SeqAt.list_countAt p its.toArray n dd sl (.bool c) (bqk c)) ⟨ho, fun y hy => ?_, ?_⟩
  · obtain ⟨d, rfl⟩ := hb.1 y (by simpa using hy)
    exact SeqAt.EqAt.bool_bool d c
  · refine ⟨.int (bs.count c : Nat), Hh, I.tok _, ⟨sh.toks, ?_⟩, q⟩
    have e : its.toArray.toList.countP (bqk c) = bs.count c := hb.2
    show Value.int ((its.toArray.toList.countP (bqk c) : Nat) : Int) _ = _
    rw [e]
/-! ### what is asked of an own error that a suite holds, its class and its dict told -/
def rIsX (K : PySem.W.Frag) (a : Addr) (cls : Value) (d : Option Addr) : List V → Hp → VK → Prop := fun xs H Q => ∃ (D dd : Addr) (fs : List (Str × V)) (c : V) (cv : Value) (b : Bool), cls = .ref D ∧ d = some dd ∧ ExcC K D ∧ H dd = some (.xd fs) ∧ xs = [.ref a, c] ∧
  (∀ u, RelV c u → u = cv) ∧ PySem.W.kitOne K (.ref D) cv = some b ∧ Q (.bl b) H
theorem call_isX {a : Addr} {oe : Obj} {cls : Value} {d : Option Addr} {pn : List (Addr × Obj)} (hz : Zc cls d oe) (hf : ∃ vs, oe.data = .fields vs) : CallR (X.suite a ((a, oe) :: pn)) (.builtin "isinstance") (rIsX X.K a cls d) := by
  intro pl sh st Hh xv ul Qw I r h
  obtain ⟨D, dd, fs, c, cv, b, rfl, rfl, C, hd, rfl, hcv, e, q⟩ := h
  obtain ⟨u, u2, rfl, rx, rt⟩ := vals2 r
  cases rx
  have ec := hcv _ rt
  subst ec
  obtain ⟨hget, _⟩ := I.pin (a, oe) (List.mem_append_left _ List.mem_cons_self)
  obtain ⟨vs, hv⟩ := hf
  have ob : ObjOk X.prog X.w Hh sh.heap dd (.xd fs) := I.hok dd _ hd
  obtain ⟨mA, hns, _⟩ := ob
  obtain ⟨od, ho, _⟩ := lookIn_ns hns
  have J : PySem.W.InstAt sh.heap a oe D (some od) := ⟨hget, hz.1, by unfold PySem.W.notCls; rw [hv] <;> rfl, by rw [hz.2]; exact ho⟩
  have hcl : (PySem.W.clsIn X.K D).isSome = true := by
    obtain ⟨cd, hc, _⟩ := PySem.W.any_some C.hd
    rw [hc]
    rfl
  exact PySem.W.kia_one (PySem.W.kitx_exc hcl C.hg C.hk C.hs C.ha C.hn C.ht C.hm) I.kIn J e (fun z => nomatch z) fun tk => ⟨.bl b, Hh, I.kept (t' := tk) fun _ _ z => z, rfl, q⟩
/-! ### f(e, .., k = v, ..) in a try's body -/
def tCallNS (n m : Nat) (sp : Sp) (gV : List V → List V → List V) (E : St → XK) (t tk : TA) : TE := fun σ H Q => t σ H fun vs H1 => tk σ H1 fun zs H2 => vs.length = n ∧ zs.length = m ∧ sp (gV vs zs) H2 Q (E σ)
variable {CX : CXT} {k n : Nat} {f : Addr} {fd : FuncData} {ps ks : List Str} {sp : Sp} {E : St → XK} {x : Str} {p pos : Pos} {e : Expr} {es : List Expr} {kws : List Keyword} {t tk : TA} {g : List Value → List Value → List Value} {gV : List V → List V → List V}
theorem pe_callNS (F : FnOk X.prog X.w X.K X.mg X.base CX k f fd ps sp) (hr : Room k X.A) (hg : Gl X x) (hm : X.mg x = some (.ref f)) (hk : PySem.W.keepIn X.K (.ref f) = true)
    (hb : KBn X.K fd ps n ks g gV) (hx : ∀ σ, PassesAt CX X σ (E σ)) (ha : PA X (e :: es) t) (hkw : PK X kws tk)
    (hall : (backToKw pos (keywordEach kws X.env)).all (fun y => y.1.isSome) = true := by rfl) (hks : (backToKw pos (keywordEach kws X.env)).filterMap (fun y => y.1) = ks := by rfl)
    (hdb : (x == ("__debug__" : Str)) = false := by decide) (he : starEach (e :: es) X.env = (false, eval e X.env) :: starEach es X.env := by rfl)
    (hpl : ((backTo pos (starEach (e :: es) X.env)).any (fun y => y.1) || (backToKw pos (keywordEach kws X.env)).any (fun y => y.1.isNone)) = false := by rfl) :
    PE X (.Call (.Name x p) (e :: es) kws pos) (tCallNS n ks.length sp gV E t tk) := by
  refine ⟨fun pl sh st Hh Qw I h => wpAny_Call_Name_kw (ld_glob I hg hm ?_ hdb)⟩
  refine PySem.W.callWith_KW (h₀ := X.base) I.ok.mod.kin hk hall (thn (ha.run pos pl sh st Hh _ I h) ?_) hpl he
  rintro us s1 ⟨vs, H1, I1, r, q⟩
  refine thn (hkw.run pos pl s1 st H1 _ I1 q) ?_
  rintro ws s2 ⟨zs, H2, I2, rz, l1, l2, q2⟩
  refine ⟨I2.kIn, ?_⟩
  rw [hks]
  have to := hb.to s2 us ws I2.kIn (r.length.symm.trans l1) (rz.length.symm.trans l2)
  refine wpAny_call (codeAny_mono (F.run X.A X.stack s2 H2 _ _ (gV vs zs) Qw (E st) hr I2.env0 to (hb.rel r rz) q2) fun rs s3 hq => ?_)
  cases rs with
  | error er => exact hx st pl H2 s2 er s3 I2 hq
  | ok fl => cases fl with
    | ret v => exact I2.after hq
    | _ => exact hq.elim
end
end L2

namespace K11
open PySem PySem.Spec PyProof.Rows L2
local macro_rules | `(tactic| walk_at "rd") => `(tactic| repeat (first
  | refine ⟨_, rfl, ?_⟩
  | refine ⟨_, _, rfl, rfl, ?_⟩
  | refine ⟨_, _, _, _, rfl, rfl, SqL.lst (by first | assumption | exact upd_same), rfl, ?_⟩
  | refine ⟨_, _, _, _, rfl, rfl, (by first | assumption | exact upd_same), rfl, ?_⟩
  | refine Or.inl ⟨_, rfl, ?_⟩
  | refine ⟨_, _, rfl, (by assumption), ?_⟩
  | refine ⟨by first | exact ⟨by decide, by decide, by decide⟩ | exact wide_mul (a := 64) (b := 64) (by omega) (by omega) (by decide) (by decide) (by decide) | exact wide_div (b := 64) (by omega) (by omega) (by decide) (by decide) | (show (0 : Int) < _; omega), ?_⟩))

def spMerged : Sp := fun vs H Q _ => ∃ (xs ys : List Bool) (n : Nat), vs = [.str (rowS xs), .str (rowS ys), .int (n : Int)] ∧ 0 < xs.length ∧ xs.length ≤ 900 ∧ ys.length ≤ 900 ∧ n ≤ 900 ∧ ∀ H', Same H H' → Q (.bl true) H'
def spAny : Sp := fun vs H Q _ => ∃ (p : Addr) (n : Nat), vs = [.ref p] ∧ Box H p n ∧ n ≤ 1000 ∧
  ∀ (q : Addr) (n0 n1 n2 n3 : Nat) H', H q = none → But p H H' → H' q = some (.lst [.int (n0 : Int), .int (n1 : Int), .int (n2 : Int), .int (n3 : Int)]) → (1 ≤ n0 ∧ n0 ≤ 300 ∧ n1 ≤ 300 ∧ n2 ≤ 300 ∧ n3 ≤ 300) → Q (.ref q) H'
/-- a number as it should be, at this place | none -/
inductive Wr (H : Hp) (low : Int) : V → Prop where
  | bl (b : Bool) : Wr H low (.bl b)
  | non : Wr H low .non
  | str : Wr H low (.str ("1" : Str))
  | lst {a : Addr} (e : H a = some (.lst [.int 1])) : Wr H low (.ref a)
  | tup {a : Addr} (e : H a = some (.tup [.int 1])) : Wr H low (.ref a)
  | neg {i : Int} (h : i < low) (h0 : i ≤ 0) : Wr H low (.int i)
theorem Wr.same {H H' : Hp} {low : Int} {v : V} (s : Same H H') (k : Wr H low v) : Wr H' low v := by
  cases k with
  | bl b => exact .bl b
  | non => exact .non
  | str => exact .str
  | lst e => exact .lst (s _ _ e)
  | tup e => exact .tup (s _ _ e)
  | neg h h0 => exact .neg h h0
/-- the changed object is a list of another length -/
theorem Wr.but {H H' : Hp} {low : Int} {p : Addr} {xs : List V} {v : V} (s : But p H H') (e : H p = some (.lst xs)) (hl : xs.length ≠ 1) (k : Wr H low v) : Wr H' low v := by
  have ne : ∀ {a : Addr} {o : HO}, H a = some o → o ≠ .lst xs → a ≠ p := fun {a o} h n z => by
    subst z
    exact n (Option.some.inj (h.symm.trans e))
  cases k with
  | bl b => exact .bl b
  | non => exact .non
  | str => exact .str
  | lst h => exact .lst (s _ _ (ne h fun z => by
      have z' := HO.lst.inj z
      subst z'
      exact hl rfl) h)
  | tup h => exact .tup (s _ _ (ne h fun z => by cases z) h)
  | neg h h0 => exact .neg h h0
theorem Wr.kind {K : PySem.W.Frag} {H : Hp} {low : Int} {v : V} (k : Wr H low v) : Kinded K H v ∧ isNum v low = false ∧ ∀ i, v = .int i → i ≤ 0 := by
  cases k with
  | bl b => exact ⟨.bl b, rfl, fun i z => by cases z⟩
  | non => exact ⟨.non, rfl, fun i z => by cases z⟩
  | str => exact ⟨.str _, rfl, fun i z => by cases z⟩
  | lst e => exact ⟨.lst e, rfl, fun i z => by cases z⟩
  | tup e => exact ⟨.tup e, rfl, fun i z => by cases z⟩
  | neg h h0 => exact ⟨.int _, decide_eq_false (by omega), fun i z => by cases z; exact h0⟩
theorem Wr.data {K : PySem.W.Frag} {H : Hp} {low : Int} {v : V} (k : Wr H low v) : ∃ d, Dp K H v d ∧ SeqAt.shaped d = true ∧ d.canLay0 = true := by
  cases k with
  | bl b => exact ⟨_, .bl b, rfl, rfl⟩
  | non => exact ⟨_, .non, rfl, rfl⟩
  | str => exact ⟨_, .str _, by decide +kernel, by decide +kernel⟩
  | lst e => exact ⟨_, .lst (SqL.lst e) (.cons (.int 1) .nil), rfl, rfl⟩
  | tup e => exact ⟨_, .tup (SqT.tup e) (.cons (.int 1) .nil), rfl, rfl⟩
  | neg h h0 => exact ⟨_, .int _, rfl, rfl⟩
def lowOf (place : Nat) : Int := if place = 0 then 1 else 0
def spWrong : Sp := fun vs H Q _ => ∃ (p : Addr) (place n : Nat), vs = [.ref p, .int (place : Int)] ∧ Box H p n ∧ n ≤ 1000 ∧ ∀ v H', But p H H' → Box H' p (n + 2) → Wr H' (lowOf place) v → Q v H'
/-- four numbers, some at place k on wrong, that at k is -/
def Bent (K : PySem.W.Frag) (H : Hp) (vs : List V) (k : Nat) (v : V) : Prop := vs.length = 4 ∧ vs[k]? = some v ∧ Wr H (lowOf k) v ∧
  (∀ j u, j < k → vs[j]? = some u → ∃ n : Nat, u = .int (n : Int) ∧ lowOf j ≤ (n : Int) ∧ n ≤ 300) ∧ (∀ j u, vs[j]? = some u → (∃ n : Nat, u = .int (n : Int) ∧ n ≤ 300) ∨ Wr H (lowOf j) u)
def spRefusal (K : PySem.W.Frag) : Sp := fun vs H Q _ => ∃ (b : Addr) (xs : List V) (same : Bool) (k : Nat) (v : V), vs = [.ref b, .bl same] ∧ H b = some (.lst xs) ∧ Bent K H xs k v ∧
  ∀ t H', Same H H' → H' t = some (.tup [.str ("number" : Str), v]) → Q (.ref t) H'
def spSameV : Sp := fun vs H Q _ => ∃ (v : V) (low : Int), vs = [v, v] ∧ Wr H low v ∧ Q (.bl true) H
def spRefused (K : PySem.W.Frag) : Sp := fun vs H Q _ => ∃ (p a : Addr) (n n0 n1 n2 n3 : Nat), vs = [.ref p, .ref a] ∧ Box H p n ∧ n ≤ 900 ∧ H a = some (.lst [.int (n0 : Int), .int (n1 : Int), .int (n2 : Int), .int (n3 : Int)]) ∧ (1 ≤ n0 ∧ n0 ≤ 300 ∧ n1 ≤ 300 ∧ n2 ≤ 300 ∧ n3 ≤ 300) ∧
  ∀ H', Q (.bl true) H'
theorem spMerges_ok {K : PySem.W.Frag} {C : Addr} {l a ol oa : Int} {same : Bool} {H : Hp} {Q : VK} {E : XK} (b : 1 ≤ l ∧ l ≤ 1000 ∧ 0 ≤ a ∧ 0 ≤ ol ∧ ol ≤ 1000 ∧ 0 ≤ oa) (q : Q (.int (mergesOf l a ol oa same)) H) : spMerges K C [.int l, .int a, .int ol, .int oa, .bl same] H Q E := by
  have e1 : isNum (.int l) 1 = true := decide_eq_true b.1
  have e2 : isNum (.int a) 0 = true := decide_eq_true b.2.2.1
  have e3 : isNum (.int ol) 0 = true := decide_eq_true b.2.2.2.1
  have e4 : isNum (.int oa) 0 = true := decide_eq_true b.2.2.2.2.2
  refine ⟨_, _, _, _, _, rfl, ⟨.int _, .int _, .int _, .int _⟩, fun i hi => ?_, fun z => ?_, fun _ z => ?_, fun _ _ z => ?_, fun _ _ _ z => ?_, fun _ _ _ _ => q⟩
  · rcases List.mem_cons.mp hi with z | z
    · cases z; exact b.2.1
    · cases (List.mem_singleton.mp z); exact b.2.2.2.2.1
  · rw [e1] at z; cases z
  · rw [e2] at z; cases z
  · rw [e3] at z; cases z
  · rw [e4] at z; cases z
section
variable {P : Program} {w : World} {K : PySem.W.Frag} {mg : Str → Option Value} {base : Heap}
theorem ok__law_rows_merged (T : TX K mg) : FnOk P w K mg base CX0 6 T.a__law_rows_merged T.d__law_rows_merged p__law_rows_merged spMerged := by
  have G__law_least := ok__law_least (P := P) (w := w) (base := base) T
  have G__law_talks := ok__law_talks (P := P) (w := w) (base := base) T
  have G_merges := ok_merges (P := P) (w := w) (base := base) T
  have G__law_is_number := ok__law_is_number (P := P) (w := w) (base := base) T
  have G__law_sum := ok__law_sum (P := P) (w := w) (base := base) T
  refine T.F__law_rows_merged.ok sc__law_rows_merged (fun vs H Q E h => ?_) (fun cdv A outer s H vs Q E hr h => ?_)
  · obtain ⟨xs, ys, n, rfl, _⟩ := h
    rfl
  · obtain ⟨xs, ys, n, rfl, hx0, hx, hy, hn, q⟩ := h
    have zx : (rowS xs).length ≤ sizeLine := by rw [rowS_len]; exact Nat.le_of_lt (small1000 (by omega))
    have zy : (rowS ys).length ≤ sizeLine := by rw [rowS_len]; exact Nat.le_of_lt (small1000 (by omega))
    have jx : ((rowS xs).length : Int) = (xs.length : Int) := by rw [rowS_len]
    have jy : ((rowS ys).length : Int) = (ys.length : Int) := by rw [rowS_len]
    have l1 := hs_len xs xs.length
    have l2 := hs_len ys ys.length
    have p1 : 0 ≤ least xs := by unfold least; omega
    have p2 : 0 ≤ least ys := by unfold least; omega
    refine ⟨_, (pss_cons (ps_set (i := 3) sc__law_rows_merged.nd rfl (Or.inl rfl) (pe_call G__law_least (hr.mono (by decide)) (by rfl) T.m__law_least T.k__law_least T.b__law_least .nil pass0 (pa_cons (pv 0) pa_nil)))
      (pss_cons (ps_set (i := 4) sc__law_rows_merged.nd rfl (Or.inl rfl) (pe_call G__law_least (hr.mono (by decide)) (by rfl) T.m__law_least T.k__law_least T.b__law_least .nil pass0 (pa_cons (pv 1) pa_nil)))
      (pss_cons (ps_set (i := 5) sc__law_rows_merged.nd rfl (Or.inl rfl) (pe_call G__law_talks (hr.mono (by decide)) (by rfl) T.m__law_talks T.k__law_talks T.b__law_talks .nil pass0 (pa_cons (pv 0) (pa_cons (pv 1) pa_nil))))
      (pss_cons (ps_set (i := 6) sc__law_rows_merged.nd rfl (Or.inl rfl) (pe_callN G_merges (hr.mono (by decide)) (by rfl) T.m_merges T.k_merges T.kb_merges passL (pa_cons (pe_callB call_len_str (by rfl) T.m_len PySem.boot_len (pa_cons (pv 0) pa_nil)) (pa_cons (pv 3) (pa_cons (pe_callB call_len_str (by rfl) T.m_len PySem.boot_len (pa_cons (pv 1) pa_nil)) (pa_cons (pv 4) pa_nil)))) (pk_cons pe_bl pk_nil)))
      (pss_cons (ps_if (pt_not (pt_val (pe_call G__law_is_number (hr.mono (by decide)) (by rfl) T.m__law_is_number T.k__law_is_number T.b__law_is_number .nil pass0 (pa_cons (pv 6) (pa_cons (pe_ix ix_list (pv 5) pe_int (fun _ _ => rfl)) pa_nil)))))
      (pss_one (ps_ret pe_bl))
      pss_nil)
      (pss_cons (ps_set (i := 6) sc__law_rows_merged.nd rfl (Or.inl rfl) (pe_callN G_merges (hr.mono (by decide)) (by rfl) T.m_merges T.k_merges T.kb_merges passL (pa_cons (pe_callB call_len_str (by rfl) T.m_len PySem.boot_len (pa_cons (pv 0) pa_nil)) (pa_cons (pv 3) (pa_cons (pe_callB call_len_str (by rfl) T.m_len PySem.boot_len (pa_cons (pv 1) pa_nil)) (pa_cons (pv 4) pa_nil)))) (pk_cons pe_bl pk_nil)))
      (pss_cons (ps_if (pt_not (pt_val (pe_call G__law_is_number (hr.mono (by decide)) (by rfl) T.m__law_is_number T.k__law_is_number T.b__law_is_number .nil pass0 (pa_cons (pv 6) (pa_cons (pe_ix ix_list (pv 5) pe_int (fun _ _ => rfl)) pa_nil)))))
      (pss_one (ps_ret pe_bl))
      pss_nil)
      (pss_cons (ps_if (pt_not (pt_val (pe_call G__law_is_number (hr.mono (by decide)) (by rfl) T.m__law_is_number T.k__law_is_number T.b__law_is_number .nil pass0 (pa_cons (pe_callN G_merges (hr.mono (by decide)) (by rfl) T.m_merges T.k_merges T.kb_merges passL (pa_cons (pe_callB call_len_str (by rfl) T.m_len PySem.boot_len (pa_cons (pv 0) pa_nil)) (pa_cons (pv 3) (pa_cons pe_int (pa_cons (pv 2) pa_nil)))) (pk_cons pe_bl pk_nil)) (pa_cons (pe_callTy call_int1 (by rfl) T.m_int (by decide +kernel) (pa_cons (pe_cmpR op_eq (pv 3) pe_int (nomark _)) pa_nil)) pa_nil)))))
      (pss_one (ps_ret pe_bl))
      pss_nil)
      (pss_cons (ps_if (pt_not (pt_val (pe_call G__law_is_number (hr.mono (by decide)) (by rfl) T.m__law_is_number T.k__law_is_number T.b__law_is_number .nil pass0 (pa_cons (pe_callN G_merges (hr.mono (by decide)) (by rfl) T.m_merges T.k_merges T.kb_merges passL (pa_cons (pe_callB call_len_str (by rfl) T.m_len PySem.boot_len (pa_cons (pv 0) pa_nil)) (pa_cons (pv 3) (pa_cons pe_int (pa_cons (pv 2) pa_nil)))) (pk_cons pe_bl pk_nil)) (pa_cons pe_int pa_nil)))))
      (pss_one (ps_ret pe_bl))
      pss_nil)
      (pss_cons (ps_if (PW.pt (pw_or (pt_cmpR op_gt (pe_callB call_len_str (by rfl) T.m_len PySem.boot_len (pa_cons (pv 0) pa_nil)) pe_int (nomark _)) (pw_or1 (pt_cmpR op_gt (pe_callB call_len_str (by rfl) T.m_len PySem.boot_len (pa_cons (pv 1) pa_nil)) pe_int (nomark _)))))
      (pss_one (ps_ret pe_bl))
      pss_nil)
      (pss_one (ps_ret (pe_and (pe_cmpR op_eq (pe_call G__law_sum (hr.mono (by decide)) (by rfl) T.m__law_sum T.k__law_sum T.b__law_sum .nil pass0 (pa_cons (pv 0) (pa_cons (pv 1) (pa_cons pe_int pa_nil)))) (pe_ix ix_list (pv 5) pe_int (fun _ _ => rfl)) (nomark _)) (pe_one (pe_cmpR op_eq (pe_call G__law_sum (hr.mono (by decide)) (by rfl) T.m__law_sum T.k__law_sum T.b__law_sum .nil pass0 (pa_cons (pv 0) (pa_cons (pv 1) (pa_cons pe_int pa_nil)))) (pe_ix ix_list (pv 5) pe_int (fun _ _ => rfl)) (nomark _)))))))))))))))), ?_⟩
    refine ⟨_, rfl, xs, rfl, by omega, ?_⟩
    refine ⟨_, rfl, ys, rfl, by omega, ?_⟩
    refine ⟨_, rfl, _, rfl, xs, ys, rfl, hx0, hx, hy, fun p H1 np s1 e1 => ?_⟩
    refine ⟨_, rfl, _, rfl, zx, _, rfl, _, rfl, _, rfl, zy, _, rfl, rfl, rfl, spMerges_ok (by rw [jx, jy]; omega) ?_⟩
    refine ⟨_, rfl, _, rfl, p, _, _, _, rfl, rfl, SqL.lst e1, rfl, Yf xs ys xs.length ys.length, by rw [jx, jy, merges_Y hx0] <;> rfl, _, rfl, iteF ?_⟩
    refine ⟨_, rfl, _, rfl, zx, _, rfl, _, rfl, _, rfl, zy, _, rfl, rfl, rfl, spMerges_ok (by rw [jx, jy]; omega) ?_⟩
    refine ⟨_, rfl, _, rfl, p, _, _, _, rfl, rfl, SqL.lst e1, rfl, Xf xs ys xs.length ys.length, by rw [jx, jy, merges_X hx0] <;> rfl, _, rfl, iteF ?_⟩
    refine ⟨_, rfl, _, rfl, zx, _, rfl, _, rfl, rfl, rfl, spMerges_ok (by rw [jx]; omega) ?_⟩
    refine ⟨_, rfl, rfl, .inr ⟨_, rfl, mergesOf (rowS xs).length (least xs) 0 n true, ?_, _, rfl, iteF ?_⟩⟩
    · unfold mergesOf
      rw [if_pos rfl]
      by_cases e : least xs = 1
      · rw [if_pos ⟨rfl, e⟩, decide_eq_true (congrArg V.int e)]
        rfl
      · rw [if_neg (fun z => e z.2), decide_eq_false (fun z => e (V.int.inj z))]
        rfl
    refine ⟨_, rfl, _, rfl, zx, _, rfl, _, rfl, rfl, rfl, spMerges_ok (by rw [jx]; omega) ?_⟩
    refine ⟨mergesOf (rowS xs).length (least xs) 0 n false, ?_, _, rfl, iteF ?_⟩
    · unfold mergesOf
      rw [if_pos rfl, if_neg (by simp)]
      rfl
    refine ⟨_, rfl, _, rfl, zx, _, _, rfl, rfl, _, rfl, ?_⟩
    refine iteB (fun e => iteT (q _ s1)) (fun e => ?_)
    have h9 : ¬ (9 : Int) < ((rowS xs).length : Int) := of_decide_eq_false e
    refine ⟨_, rfl, _, rfl, zy, _, _, rfl, rfl, _, rfl, ?_⟩
    refine iteB (fun e => q _ s1) (fun e => ?_)
    have h10 : ¬ (9 : Int) < ((rowS ys).length : Int) := of_decide_eq_false e
    rw [jx] at h9
    rw [jy] at h10
    refine ⟨_, rfl, _, rfl, xs, ys, 0, rfl, by omega, by omega, fun H2 s2 => ?_⟩
    refine ⟨_, rfl, p, _, _, _, rfl, rfl, SqL.lst (s2 _ _ e1), rfl, rfl, _, rfl, ?_⟩
    rw [decide_eq_true (congrArg V.int (sum_Y hx0))]
    refine iteT ⟨_, rfl, _, rfl, xs, ys, 1, rfl, by omega, by omega, fun H3 s3 => ?_⟩
    refine ⟨_, rfl, p, _, _, _, rfl, rfl, SqL.lst (s3 _ _ (s2 _ _ e1)), rfl, rfl, ?_⟩
    rw [decide_eq_true (congrArg V.int (sum_X hx0))]
    exact q _ (s1.trans (s2.trans s3))
end
end K11

namespace K11
open PySem PySem.Spec PyProof.Rows L2
local macro_rules | `(tactic| walk_at "rd") => `(tactic| repeat (first
  | refine ⟨_, rfl, ?_⟩
  | refine ⟨_, _, rfl, rfl, ?_⟩
  | refine ⟨_, _, _, _, rfl, rfl, SqL.lst (by first | assumption | exact upd_same), rfl, ?_⟩
  | refine ⟨_, _, _, _, rfl, rfl, (by first | assumption | exact upd_same), rfl, ?_⟩
  | refine Or.inl ⟨_, rfl, ?_⟩
  | refine ⟨_, _, rfl, (by assumption), ?_⟩
  | refine ⟨by first | exact ⟨by decide, by decide, by decide⟩ | exact wide_mul (a := 64) (b := 64) (by omega) (by omega) (by decide) (by decide) (by decide) | exact wide_div (b := 64) (by omega) (by omega) (by decide) (by decide) | (show (0 : Int) < _; omega), ?_⟩))

section
variable {P : Program} {w : World} {K : PySem.W.Frag} {mg : Str → Option Value} {base : Heap}
theorem ok__law_any_numbers (T : TX K mg) : FnOk P w K mg base CX0 2 T.a__law_any_numbers T.d__law_any_numbers p__law_any_numbers spAny := by
  have G__law_take := ok__law_take (P := P) (w := w) (base := base) T
  refine T.F__law_any_numbers.ok sc__law_any_numbers (fun vs H Q E h => ?_) (fun cdv A outer s H vs Q E hr h => ?_)
  · obtain ⟨p, n, rfl, _⟩ := h
    rfl
  · obtain ⟨p, n, rfl, bx, hn, q⟩ := h
    refine ⟨_, (pss_cons (ps_set (i := 1) sc__law_any_numbers.nd rfl (Or.inl rfl) (pe_cmpR op_eq (pe_call G__law_take (hr.mono (by decide)) (by rfl) T.m__law_take T.k__law_take T.b__law_take .nil pass0 (pa_cons (pv 0) (pa_cons pe_int pa_nil))) pe_int (nomark _)))
      (pss_cons (ps_set (i := 2) sc__law_any_numbers.nd rfl (Or.inl rfl) (pe_lst (pa_cons (pe_op op_add pe_int (pe_call G__law_take (hr.mono (by decide)) (by rfl) T.m__law_take T.k__law_take T.b__law_take .nil pass0 (pa_cons (pv 0) (pa_cons pe_int pa_nil)))) (pa_cons (pe_call G__law_take (hr.mono (by decide)) (by rfl) T.m__law_take T.k__law_take T.b__law_take .nil pass0 (pa_cons (pv 0) (pa_cons pe_int pa_nil))) (pa_cons (pe_call G__law_take (hr.mono (by decide)) (by rfl) T.m__law_take T.k__law_take T.b__law_take .nil pass0 (pa_cons (pv 0) (pa_cons pe_int pa_nil))) (pa_cons (pe_call G__law_take (hr.mono (by decide)) (by rfl) T.m__law_take T.k__law_take T.b__law_take .nil pass0 (pa_cons (pv 0) (pa_cons pe_int pa_nil))) pa_nil))))))
      (pss_cons (ps_if (pt_val (pv 1))
      (pss_one (ps_set (i := 2) sc__law_any_numbers.nd rfl (Or.inl rfl) (pe_lst (pa_cons (pe_op op_add pe_int (pe_call G__law_take (hr.mono (by decide)) (by rfl) T.m__law_take T.k__law_take T.b__law_take .nil pass0 (pa_cons (pv 0) (pa_cons pe_int pa_nil)))) (pa_cons (pe_call G__law_take (hr.mono (by decide)) (by rfl) T.m__law_take T.k__law_take T.b__law_take .nil pass0 (pa_cons (pv 0) (pa_cons pe_int pa_nil))) (pa_cons (pe_call G__law_take (hr.mono (by decide)) (by rfl) T.m__law_take T.k__law_take T.b__law_take .nil pass0 (pa_cons (pv 0) (pa_cons pe_int pa_nil))) (pa_cons (pe_call G__law_take (hr.mono (by decide)) (by rfl) T.m__law_take T.k__law_take T.b__law_take .nil pass0 (pa_cons (pv 0) (pa_cons pe_int pa_nil))) pa_nil)))))))
      pss_nil)
      (pss_one (ps_ret (pv 2)))))), ?_⟩
    refine ⟨_, rfl, p, 8, n, rfl, bx, by omega, by decide, by decide, fun d H0 hd b0 x0 => ⟨rfl, ?_⟩⟩
    refine ⟨_, rfl, p, 12, n + 1, rfl, x0, by omega, by decide, by decide, fun d1 H1 h1 b1 x1 => ⟨_, _, rfl, rfl, ?_⟩⟩
    refine ⟨_, rfl, p, 16, n + 1 + 1, rfl, x1, by omega, by decide, by decide, fun d2 H2 h2 b2 x2 => ?_⟩
    refine ⟨_, rfl, p, 13, n + 1 + 1 + 1, rfl, x2, by omega, by decide, by decide, fun d3 H3 h3 b3 x3 => ?_⟩
    refine ⟨_, rfl, p, 16, n + 1 + 1 + 1 + 1, rfl, x3, by omega, by decide, by decide, fun d4 H4 h4 b4 x4 => ⟨by show 4 ≤ sizeLine; decide, fun l nl => ?_⟩⟩
    have bb := b0.trans (b1.trans (b2.trans (b3.trans b4)))
    obtain ⟨c1, c2, ep, _⟩ := bx
    obtain ⟨c3, c4, ep4, _⟩ := x4
    have lp : l ≠ p := fun z => by
      rw [z, ep4] at nl
      cases nl
    refine ⟨_, rfl, _, rfl, ?_⟩
    refine iteB (fun e => ?_) (fun e => ?_)
    · have x5 : Box (upd H4 l (.lst [.int (1 + (d1 : Int)), .int (d2 : Int), .int (d3 : Int), .int (d4 : Int)])) p (n + 1 + 1 + 1 + 1 + 1) := Box.same (same_new nl) ⟨c3, c4, ep4, by assumption⟩
      refine ⟨_, rfl, p, 200, _, rfl, x5, by omega, by decide, by decide, fun e1 H6 g1 a1 y1 => ⟨_, _, rfl, rfl, ?_⟩⟩
      refine ⟨_, rfl, p, 221, _, rfl, y1, by omega, by decide, by decide, fun e2 H7 g2 a2 y2 => ?_⟩
      refine ⟨_, rfl, p, 201, _, rfl, y2, by omega, by decide, by decide, fun e3 H8 g3 a3 y3 => ?_⟩
      refine ⟨_, rfl, p, 221, _, rfl, y3, by omega, by decide, by decide, fun e4 H9 g4 a4 y4 => ⟨by show 4 ≤ sizeLine; decide, fun r nr => ?_⟩⟩
      have cc := bb.trans ((But.of (same_new nl)).trans (a1.trans (a2.trans (a3.trans a4))))
      obtain ⟨c5, c6, ep9, _⟩ := y4
      have rp : r ≠ p := fun z => by
        rw [z, ep9] at nr
        cases nr
      refine ⟨_, rfl, q r (1 + e1) e2 e3 e4 _ (cc.back rp nr) (cc.trans (But.of (same_new nr))) (by rw [upd_same] <;> rfl) (by omega)⟩
    · refine ⟨_, rfl, q l (1 + d1) d2 d3 d4 _ (bb.back lp nl) (bb.trans (But.of (same_new nl))) (by rw [upd_same] <;> rfl) (by omega)⟩
theorem ok__law_wrong_number (T : TX K mg) : FnOk P w K mg base CX0 2 T.a__law_wrong_number T.d__law_wrong_number p__law_wrong_number spWrong := by
  have G__law_take := ok__law_take (P := P) (w := w) (base := base) T
  refine T.F__law_wrong_number.ok sc__law_wrong_number (fun vs H Q E h => ?_) (fun cdv A outer s H vs Q E hr h => ?_)
  · obtain ⟨p, place, n, rfl, _⟩ := h
    rfl
  · obtain ⟨p, place, n, rfl, bx, hn, q⟩ := h
    refine ⟨_, (pss_cons (ps_set (i := 2) sc__law_wrong_number.nd rfl (Or.inl rfl) (pe_call G__law_take (hr.mono (by decide)) (by rfl) T.m__law_take T.k__law_take T.b__law_take .nil pass0 (pa_cons (pv 0) (pa_cons pe_int pa_nil))))
      (pss_cons (ps_set (i := 3) sc__law_wrong_number.nd rfl (Or.inl rfl) (pe_lst (pa_cons pe_bl (pa_cons pe_bl (pa_cons pe_non (pa_cons pe_str (pa_cons (pe_lst (pa_cons pe_int pa_nil)) (pa_cons (pe_tup (pa_cons pe_int pa_nil)) pa_nil))))))))
      (pss_cons (ps_if (pt_cmpR op_lt (pv 2) pe_int (nomark _))
      (pss_one (ps_ret (pe_ix ix_list (pv 3) (pv 2) (fun _ _ => rfl))))
      pss_nil)
      (pss_cons (ps_if (PW.pt (pw_and (pt_cmpR op_eq (pv 2) pe_int (nomark _)) (pw_and1 (pt_cmpR op_eq (pv 1) pe_int (nomark _)))))
      (pss_one (ps_ret pe_int))
      pss_nil)
      (pss_cons (ps_if (pt_cmpR op_lt (pv 2) pe_int (nomark _))
      (pss_one (ps_ret (pe_un un_neg pe_int)))
      pss_nil)
      (pss_one (ps_ret (pe_op op_sub (pe_un un_neg pe_int) (pe_op op_mulW (pe_call G__law_take (hr.mono (by decide)) (by rfl) T.m__law_take T.k__law_take T.b__law_take .nil pass0 (pa_cons (pv 0) (pa_cons pe_int pa_nil))) (pe_op op_pow pe_int pe_int)))))))))), ?_⟩
    refine ⟨_, rfl, p, 9, n, rfl, bx, by omega, by decide, by decide, fun d H0 hd b0 x0 => ?_⟩
    refine ⟨by show 1 ≤ sizeLine; decide, fun l nl => ⟨by show 1 ≤ sizeLine; decide, fun t nt => ⟨by show 6 ≤ sizeLine; decide, fun v nv => ?_⟩⟩⟩
    have s3 := (same_new (o := .lst [.int 1]) nl).trans ((same_new (o := .tup [.int 1]) nt).trans (same_new (o := .lst [.bl true, .bl false, .non, .str ("1" : Str), .ref l, .ref t]) nv))
    have bb := b0.trans (But.of s3)
    have x3 : Box _ p (n + 2) := Box.mono (Box.same s3 x0) (by omega)
    refine ⟨_, rfl, _, _, rfl, rfl, _, rfl, ?_⟩
    refine iteB (fun e => ?_) (fun e => ?_)
    · have h6 : (d : Int) < 6 := of_decide_eq_true e
      have el : upd (upd (upd H0 l (.lst [.int 1])) t (.tup [.int 1])) v (.lst [.bl true, .bl false, .non, .str ("1" : Str), .ref l, .ref t]) l = some (.lst [.int 1]) := (same_new nv) _ _ ((same_new nt) _ _ upd_same)
      have et : upd (upd (upd H0 l (.lst [.int 1])) t (.tup [.int 1])) v (.lst [.bl true, .bl false, .non, .str ("1" : Str), .ref l, .ref t]) t = some (.tup [.int 1]) := (same_new nv) _ _ upd_same
      have h6' : d < 6 := by omega
      match d, h6' with
      | 0, _ => exact ⟨_, rfl, _, rfl, v, _, _, _, rfl, rfl, SqL.lst upd_same, rfl, q _ _ bb x3 (.bl true)⟩
      | 1, _ => exact ⟨_, rfl, _, rfl, v, _, _, _, rfl, rfl, SqL.lst upd_same, rfl, q _ _ bb x3 (.bl false)⟩
      | 2, _ => exact ⟨_, rfl, _, rfl, v, _, _, _, rfl, rfl, SqL.lst upd_same, rfl, q _ _ bb x3 .non⟩
      | 3, _ => exact ⟨_, rfl, _, rfl, v, _, _, _, rfl, rfl, SqL.lst upd_same, rfl, q _ _ bb x3 .str⟩
      | 4, _ => exact ⟨_, rfl, _, rfl, v, _, _, _, rfl, rfl, SqL.lst upd_same, rfl, q _ _ bb x3 (.lst el)⟩
      | 5, _ => exact ⟨_, rfl, _, rfl, v, _, _, _, rfl, rfl, SqL.lst upd_same, rfl, q _ _ bb x3 (.tup et)⟩
    · have lo : 0 ≤ lowOf place := by unfold lowOf; split <;> omega
      have m1 : Wr (upd (upd (upd H0 l (.lst [.int 1])) t (.tup [.int 1])) v (.lst [.bl true, .bl false, .non, .str ("1" : Str), .ref l, .ref t])) (lowOf place) (.int (-1)) := .neg (by omega) (by omega)
      have rest : ∀ D : Prop, D → D := fun _ h => h
      refine ⟨_, rfl, rfl, _, rfl, ?_⟩
      refine iteB (fun e2 => ?_) (fun e2 => ?_)
      · refine ⟨_, rfl, rfl, _, rfl, ?_⟩
        refine iteB (fun e3 => ?_) (fun e3 => ?_)
        · have z : (place : Int) = 0 := V.int.inj (of_decide_eq_true e3)
          refine q _ _ bb x3 (.neg ?_ (Int.le_refl 0))
          unfold lowOf
          rw [if_pos (by omega)]
          decide
        · refine ⟨_, rfl, _, _, rfl, rfl, _, rfl, ?_⟩
          refine iteB (fun e4 => ?_) (fun e4 => ?_)
          · exact ⟨_, rfl, q _ _ bb x3 m1⟩
          · refine ⟨_, rfl, _, rfl, p, 1000000, n + 1, rfl, Box.same s3 x0, by omega, by decide, by decide, fun k H4 hk b4 x4 => ?_⟩
            refine ⟨_, _, rfl, rfl, ⟨by decide, by decide, by decide⟩, _, _, rfl, rfl, wide_mul (a := 64) (b := 128) (by omega) (by decide) (by decide) (by decide) (by decide), _, _, rfl, rfl, ?_⟩
            refine q _ _ (bb.trans b4) x4 (.neg ?_ ?_)
            · have z : (0 : Int) ≤ (k : Int) * 10 ^ (30 : Int).toNat := Int.mul_nonneg (by omega) (by decide)
              omega
            · have z : (0 : Int) ≤ (k : Int) * 10 ^ (30 : Int).toNat := Int.mul_nonneg (by omega) (by decide)
              omega
      · refine iteF ?_
        refine ⟨_, rfl, _, _, rfl, rfl, _, rfl, ?_⟩
        refine iteB (fun e4 => ?_) (fun e4 => ?_)
        · exact ⟨_, rfl, q _ _ bb x3 m1⟩
        · refine ⟨_, rfl, _, rfl, p, 1000000, n + 1, rfl, Box.same s3 x0, by omega, by decide, by decide, fun k H4 hk b4 x4 => ?_⟩
          refine ⟨_, _, rfl, rfl, ⟨by decide, by decide, by decide⟩, _, _, rfl, rfl, wide_mul (a := 64) (b := 128) (by omega) (by decide) (by decide) (by decide) (by decide), _, _, rfl, rfl, ?_⟩
          refine q _ _ (bb.trans b4) x4 (.neg ?_ ?_)
          · have z : (0 : Int) ≤ (k : Int) * 10 ^ (30 : Int).toNat := Int.mul_nonneg (by omega) (by decide)
            omega
          · have z : (0 : Int) ≤ (k : Int) * 10 ^ (30 : Int).toNat := Int.mul_nonneg (by omega) (by decide)
            omega
theorem ok__law_same (T : TX K mg) : FnOk P w K mg base CX0 1 T.a__law_same T.d__law_same p__law_same spSameV := by
  refine T.F__law_same.ok sc__law_same (fun vs H Q E h => ?_) (fun cdv A outer s H vs Q E hr h => ?_)
  · obtain ⟨v, low, rfl, _⟩ := h
    rfl
  · obtain ⟨v, low, rfl, wv, q⟩ := h
    obtain ⟨t, ty, k⟩ := (wv.kind (K := K)).1.is_bool
    obtain ⟨d, hd, sh, cl⟩ := wv.data (K := K)
    refine ⟨_, (pss_one (ps_ret (pe_and (pe_cmpR op_eq (pe_callB call_isi (by rfl) T.m_isinstance (by decide +kernel) (pa_cons (pv 0) (pa_cons (pe_bltn (v := .ty "bool") (by rfl) T.m_bool (by decide +kernel) rfl) pa_nil))) (pe_callB call_isi (by rfl) T.m_isinstance (by decide +kernel) (pa_cons (pv 1) (pa_cons (pe_bltn (v := .ty "bool") (by rfl) T.m_bool (by decide +kernel) rfl) pa_nil))) (nomark _)) (pe_one (pe_cmpR (op_eqD hr.units) (pv 0) (pv 1) (nomark _)))))), ?_⟩
    refine ⟨_, rfl, v, .ty "bool", t, _, _, rfl, .ty _, ty, k, _, rfl, v, .ty "bool", t, _, _, rfl, .ty _, ty, k, rfl, _, rfl, ?_⟩
    rw [decide_eq_true rfl]
    refine iteT ⟨_, rfl, _, rfl, d, d, hd, hd, sh, sh, ?_⟩
    rw [SeqAt.eqv_refl _ cl]
    exact q
end
end K11

namespace K11
open PySem PySem.Spec PyProof.Rows L2
local macro_rules | `(tactic| walk_at "rd") => `(tactic| repeat (first
  | refine ⟨_, rfl, ?_⟩
  | refine ⟨_, _, rfl, rfl, ?_⟩
  | refine ⟨_, _, _, _, rfl, rfl, SqL.lst (by first | assumption | exact upd_same), rfl, ?_⟩
  | refine ⟨_, _, _, _, rfl, rfl, (by first | assumption | exact upd_same), rfl, ?_⟩
  | refine Or.inl ⟨_, rfl, ?_⟩
  | refine ⟨_, _, rfl, (by assumption), ?_⟩
  | refine ⟨by first | exact ⟨by decide, by decide, by decide⟩ | exact wide_mul (a := 64) (b := 64) (by omega) (by omega) (by decide) (by decide) (by decide) | exact wide_div (b := 64) (by omega) (by omega) (by decide) (by decide) | (show (0 : Int) < _; omega), ?_⟩))

section
variable {P : Program} {w : World} {K : PySem.W.Frag} {mg : Str → Option Value} {base : Heap}
theorem four {xs : List V} (h : xs.length = 4) : ∃ a b c d, xs = [a, b, c, d] := by
  match xs, h with
  | [a, b, c, d], _ => exact ⟨a, b, c, d, rfl⟩
theorem bent_go {E : XK} {C : Addr} {H : Hp} {v0 v1 v2 v3 v : V} {k : Nat} {G : Prop} (good : ∀ j u, j < k → [v0, v1, v2, v3][j]? = some u → isNum u (lowOf j) = true) (bad : isNum v (lowOf k) = false) (hk : [v0, v1, v2, v3][k]? = some v) (R : Raised E C "number" v H) :
    (isNum v0 1 = false → Raised E C "number" v0 H) ∧ (isNum v0 1 = true → isNum v1 0 = false → Raised E C "number" v1 H) ∧ (isNum v0 1 = true → isNum v1 0 = true → isNum v2 0 = false → Raised E C "number" v2 H) ∧
    (isNum v0 1 = true → isNum v1 0 = true → isNum v2 0 = true → isNum v3 0 = false → Raised E C "number" v3 H) ∧ (isNum v0 1 = true → isNum v1 0 = true → isNum v2 0 = true → isNum v3 0 = true → G) := by
  have tf : ∀ {b : Bool} {F : Prop}, b = true → b = false → F := fun h1 h2 => by
    rw [h1] at h2
    cases h2
  have hk4 : k < 4 := (List.getElem?_eq_some_iff.mp hk).1
  match k, hk4 with
  | 0, _ =>
    cases hk
    exact ⟨fun _ => R, fun z => tf z bad, fun z => tf z bad, fun z => tf z bad, fun z => tf z bad⟩
  | 1, _ =>
    cases hk
    exact ⟨fun z => tf (good 0 v0 (by decide) rfl) z, fun _ _ => R, fun _ z => tf z bad, fun _ z => tf z bad, fun _ z => tf z bad⟩
  | 2, _ =>
    cases hk
    exact ⟨fun z => tf (good 0 v0 (by decide) rfl) z, fun _ z => tf (good 1 v1 (by decide) rfl) z, fun _ _ _ => R, fun _ _ z => tf z bad, fun _ _ z => tf z bad⟩
  | 3, _ =>
    cases hk
    exact ⟨fun z => tf (good 0 v0 (by decide) rfl) z, fun _ z => tf (good 1 v1 (by decide) rfl) z, fun _ _ z => tf (good 2 v2 (by decide) rfl) z, fun _ _ _ _ => R, fun _ _ _ z => tf z bad⟩
theorem ok__law_refusal (T : TX K mg) : FnOk P w K mg base CX0 5 T.a__law_refusal T.d__law_refusal p__law_refusal (spRefusal K) := by
  have G_merges := ok_merges (P := P) (w := w) (base := base) T
  refine T.F__law_refusal.ok sc__law_refusal (fun vs H Q E h => ?_) (fun cdv A outer s H vs Q E hr h => ?_)
  · obtain ⟨b, xs, same, k, v, rfl, _⟩ := h
    rfl
  · obtain ⟨b, xs, same, k, v, rfl, hb, ⟨h4, hk, wk, low, any⟩, q⟩ := h
    obtain ⟨v0, v1, v2, v3, rfl⟩ := four h4
    refine ⟨_, (pss_cons (ps_try_as (i := 2) (tb := fun W => (tDrop (tCallNS 4 (List.length (["same"] : List Str)) (spMerges K T.a_InvalidNumber) (fun us ws => us ++ ws) (WE W) (tCons (tOp (rIxL K) (tVar 0) (tC (.int 0))) (tCons (tOp (rIxL K) (tVar 0) (tC (.int 1))) (tCons (tOp (rIxL K) (tVar 0) (tC (.int 2))) (tCons (tOp (rIxL K) (tVar 0) (tC (.int 3))) tNil)))) (tCons (tVar 1) tNil))))
      (ts := fun a cls d => (tSeq (tAsg (tLst (tCons (tCB (rIsX K a cls d) (tCons (tVar 2) (tCons (tC (.ref T.a_InvalidNumber)) tNil))) (tCons (tCB (rIsX K a cls d) (tCons (tVar 2) (tCons (tC (.ref T.a_InvalidRow)) tNil))) (tCons (tCB (rIsX K a cls d) (tCons (tVar 2) (tCons (tC (.ref T.a_InvalidFlags)) tNil))) tNil)))) (gName 3))
        (tSeq (tAsg (tOp rCat (tVar 3) (tLst (tCons (tCB (rIsX K a cls d) (tCons (tVar 2) (tCons (tC (.ref T.a_InvalidLine)) tNil))) (tCons (tCB (rIsX K a cls d) (tCons (tVar 2) (tCons (tC (.ref T.a_InvalidSlot)) tNil))) (tCons (tCB (rIsX K a cls d) (tCons (tVar 2) (tCons (tC (.ref T.a_InvalidText)) tNil))) tNil))))) (gName 3))
        (tSeq (tAsg (tOp rCat (tVar 3) (tLst (tCons (tCB (rIsX K a cls d) (tCons (tVar 2) (tCons (tC (.ref T.a_Refused)) tNil))) (tCons (tCB (rIsX K a cls d) (tCons (tVar 2) (tCons (tC (.ref T.a_TooMany)) tNil))) tNil)))) (gName 3))
        (tSeq (tIfS (tOr (tNot (tB (tCB (rIsX K a cls d) (tCons (tVar 2) (tCons (tC (.ty "ValueError")) tNil))))) (tTest (tOp rNe (tBM K "list" (rCntB K) (tVar 3) (tCons (tC (.bl true)) tNil)) (tC (.int 1))))) (tRet (tTup (tCons (tC (.str ("several classes" : Str))) (tCons (tC (.int 0)) tNil)))) tNext)
        (tSeq (tIfS (tB (tOp (rIxL K) (tVar 3) (tC (.int 0)))) (tRet (tTup (tCons (tC (.str ("number" : Str))) (tCons (tXf a cls d T.a_InvalidNumber "number" (tVar 2)) tNil)))) tNext)
        (tRet (tTup (tCons (tC (.str ("another class" : Str))) (tCons (tC (.int 0)) tNil))))))))))
      rfl rfl sc__law_refusal.nd rfl rfl ⟨rfl, by decide, Or.inl T.m_CacheError⟩ takes0
      (fun W pn xe tk _ => (pss_one (ps_expr (pe_callNS G_merges (hr.mono (by decide)) (by rfl) T.m_merges T.k_merges T.kb_merges (fun σ => passAt tk σ) (pa_cons (pe_ix ix_list (pv 0) pe_int (fun _ _ => rfl)) (pa_cons (pe_ix ix_list (pv 0) pe_int (fun _ _ => rfl)) (pa_cons (pe_ix ix_list (pv 0) pe_int (fun _ _ => rfl)) (pa_cons (pe_ix ix_list (pv 0) pe_int (fun _ _ => rfl)) pa_nil)))) (pk_cons (pv 1) pk_nil)))))
      (fun a oe cls d pn hz hf => (pss_cons (ps_set (i := 3) sc__law_refusal.nd rfl (Or.inl rfl) (pe_lst (pa_cons (pe_callB (call_isX hz hf) (by rfl) T.m_isinstance (by decide +kernel) (pa_cons (pv 2) (pa_cons (pe_glob (v := .ref T.a_InvalidNumber) (by rfl) T.m_InvalidNumber rfl) pa_nil))) (pa_cons (pe_callB (call_isX hz hf) (by rfl) T.m_isinstance (by decide +kernel) (pa_cons (pv 2) (pa_cons (pe_glob (v := .ref T.a_InvalidRow) (by rfl) T.m_InvalidRow rfl) pa_nil))) (pa_cons (pe_callB (call_isX hz hf) (by rfl) T.m_isinstance (by decide +kernel) (pa_cons (pv 2) (pa_cons (pe_glob (v := .ref T.a_InvalidFlags) (by rfl) T.m_InvalidFlags rfl) pa_nil))) pa_nil)))))
      (pss_cons (ps_set (i := 3) sc__law_refusal.nd rfl (Or.inl rfl) (pe_op op_cat (pv 3) (pe_lst (pa_cons (pe_callB (call_isX hz hf) (by rfl) T.m_isinstance (by decide +kernel) (pa_cons (pv 2) (pa_cons (pe_glob (v := .ref T.a_InvalidLine) (by rfl) T.m_InvalidLine rfl) pa_nil))) (pa_cons (pe_callB (call_isX hz hf) (by rfl) T.m_isinstance (by decide +kernel) (pa_cons (pv 2) (pa_cons (pe_glob (v := .ref T.a_InvalidSlot) (by rfl) T.m_InvalidSlot rfl) pa_nil))) (pa_cons (pe_callB (call_isX hz hf) (by rfl) T.m_isinstance (by decide +kernel) (pa_cons (pv 2) (pa_cons (pe_glob (v := .ref T.a_InvalidText) (by rfl) T.m_InvalidText rfl) pa_nil))) pa_nil))))))
      (pss_cons (ps_set (i := 3) sc__law_refusal.nd rfl (Or.inl rfl) (pe_op op_cat (pv 3) (pe_lst (pa_cons (pe_callB (call_isX hz hf) (by rfl) T.m_isinstance (by decide +kernel) (pa_cons (pv 2) (pa_cons (pe_glob (v := .ref T.a_Refused) (by rfl) T.m_Refused rfl) pa_nil))) (pa_cons (pe_callB (call_isX hz hf) (by rfl) T.m_isinstance (by decide +kernel) (pa_cons (pv 2) (pa_cons (pe_glob (v := .ref T.a_TooMany) (by rfl) T.m_TooMany rfl) pa_nil))) pa_nil)))))
      (pss_cons (ps_if (PW.pt (pw_or (pt_not (pt_val (pe_callB (call_isX hz hf) (by rfl) T.m_isinstance (by decide +kernel) (pa_cons (pv 2) (pa_cons (pe_bltn (v := .ty "ValueError") (by rfl) T.m_ValueError (by decide +kernel) rfl) pa_nil))))) (pw_or1 (pt_cmpR op_ne (pe_bm PySem.F.plainAttrs_list PySem.F.slot_list_count PySem.F.type_list_count mt_bcount (pv 3) (pa_cons pe_bl pa_nil)) pe_int (nomark _)))))
      (pss_one (ps_ret (pe_tup (pa_cons pe_str (pa_cons pe_int pa_nil)))))
      pss_nil)
      (pss_cons (ps_if (pt_val (pe_ix ix_list (pv 3) pe_int (fun _ _ => rfl)))
      (pss_one (ps_ret (pe_tup (pa_cons pe_str (pa_cons (pe_xf (C := T.a_InvalidNumber) T.x_InvalidNumber (T.n_InvalidNumber) hz hf (pv 2)) pa_nil)))))
      pss_nil)
      (pss_one (ps_ret (pe_tup (pa_cons pe_str (pa_cons pe_int pa_nil))))))))))))
      (pss_one (ps_ret (pe_tup (pa_cons pe_str (pa_cons pe_int pa_nil)))))), ?_⟩
    have wv : ∀ j u, [v0, v1, v2, v3][j]? = some u → Kinded K H u ∧ ∀ i, u = .int i → i ≤ 1000 := fun j u hu => by
      rcases any j u hu with ⟨n, rfl, hn⟩ | w
      · exact ⟨.int _, fun i z => by cases z; omega⟩
      · have z := w.kind (K := K)
        exact ⟨z.1, fun i e => by have := z.2.2 i e; omega⟩
    have good : ∀ j u, j < k → [v0, v1, v2, v3][j]? = some u → isNum u (lowOf j) = true := fun j u hj hu => by
      obtain ⟨n, rfl, hn, _⟩ := low j u hj hu
      exact decide_eq_true hn
    have bad : isNum v (lowOf k) = false := (wk.kind (K := K)).2.1
    have hk4 : k < 4 := by
      have := (List.getElem?_eq_some_iff.mp hk).1
      rw [h4] at this
      exact this
    refine ⟨_, rfl, b, _, 0, v0, rfl, rfl, SqL.lst hb, rfl, _, rfl, b, _, 1, v1, rfl, rfl, SqL.lst hb, rfl, _, rfl, b, _, 2, v2, rfl, rfl, SqL.lst hb, rfl, _, rfl, b, _, 3, v3, rfl, rfl, SqL.lst hb, rfl, _, rfl, rfl, rfl, ?_⟩
    refine ⟨v0, v1, v2, v3, same, rfl, ⟨(wv 0 v0 rfl).1, (wv 1 v1 rfl).1, (wv 2 v2 rfl).1, (wv 3 v3 rfl).1⟩, fun i hi => ?_, ?_⟩
    · rcases List.mem_cons.mp hi with z | z
      · exact (wv 0 v0 rfl).2 i z.symm
      · exact (wv 2 v2 rfl).2 i (List.mem_singleton.mp z).symm
    refine bent_go (k := k) (v := v) good bad hk ?_
    intro d H' n1 s1 hd
    refine ⟨true, T.x_CacheError, fun _ a na => ?_, fun z => by cases z⟩
    refine ⟨_, rfl, _, d, _, _, _, _, rfl, rfl, T.e_InvalidNumber, hd, rfl, fun _ r => r, T.q_InvalidNumber, _, rfl, _, d, _, _, _, _, rfl, rfl, T.e_InvalidNumber, hd, rfl, fun _ r => r, T.q_InvalidRow, _, rfl, _, d, _, _, _, _, rfl, rfl, T.e_InvalidNumber, hd, rfl, fun _ r => r, T.q_InvalidFlags, by show 3 ≤ sizeLine; decide, fun k1 m1 => ?_⟩
    have hd1 := (same_new (o := .lst [.bl true, .bl false, .bl false]) m1) _ _ hd
    refine ⟨_, rfl, _, rfl, _, d, _, _, _, _, rfl, rfl, T.e_InvalidNumber, hd1, rfl, fun _ r => r, T.q_InvalidLine, _, rfl, _, d, _, _, _, _, rfl, rfl, T.e_InvalidNumber, hd1, rfl, fun _ r => r, T.q_InvalidSlot, _, rfl, _, d, _, _, _, _, rfl, rfl, T.e_InvalidNumber, hd1, rfl, fun _ r => r, T.q_InvalidText, by show 3 ≤ sizeLine; decide, fun k2 m2 => ?_⟩
    refine ⟨k1, k2, _, _, rfl, rfl, (same_new m2) _ _ upd_same, upd_same, by show 3 + 3 ≤ sizeLine; decide, fun k3 m3 => ?_⟩
    have hd3 := (same_new (o := .lst ([.bl true, .bl false, .bl false] ++ [.bl false, .bl false, .bl false])) m3) _ _ ((same_new (o := .lst [.bl false, .bl false, .bl false]) m2) _ _ hd1)
    refine ⟨_, rfl, _, rfl, _, d, _, _, _, _, rfl, rfl, T.e_InvalidNumber, hd3, rfl, fun _ r => r, T.q_Refused, _, rfl, _, d, _, _, _, _, rfl, rfl, T.e_InvalidNumber, hd3, rfl, fun _ r => r, T.q_TooMany, by show 2 ≤ sizeLine; decide, fun k4 m4 => ?_⟩
    refine ⟨k3, k4, _, _, rfl, rfl, (same_new m4) _ _ upd_same, upd_same, by show 6 + 2 ≤ sizeLine; decide, fun k5 m5 => ?_⟩
    have hd5 := (same_new (o := .lst ([.bl true, .bl false, .bl false] ++ [.bl false, .bl false, .bl false] ++ [.bl false, .bl false])) m5) _ _ ((same_new (o := .lst [.bl false, .bl false]) m4) _ _ hd3)
    refine ⟨_, rfl, _, d, _, _, _, _, rfl, rfl, T.e_InvalidNumber, hd5, rfl, fun _ r => r, T.q_ValueError, _, rfl, iteF ?_⟩
    refine ⟨_, rfl, .inl ⟨rfl, _, SqL.lst upd_same⟩, k5, [true, false, false, false, false, false, false, false], true, rfl, rfl, SqL.lst upd_same, rfl, _, rfl, ?_⟩
    refine iteNS rfl ?_
    refine ⟨_, rfl, k5, _, _, _, rfl, rfl, SqL.lst upd_same, rfl, _, rfl, iteT ?_⟩
    refine ⟨_, rfl, rfl, rfl, d, _, v, rfl, hd5, by simp [List.lookup], by show 2 ≤ sizeLine; decide, fun t nt => ?_⟩
    exact q t _ (s1.trans ((same_new m1).trans ((same_new m2).trans ((same_new m3).trans ((same_new m4).trans ((same_new m5).trans (same_new nt))))))) upd_same
end
end K11

namespace K11
open PySem PySem.Spec PyProof.Rows L2
local macro_rules | `(tactic| walk_at "rd") => `(tactic| repeat (first
  | refine ⟨_, rfl, ?_⟩
  | refine ⟨_, _, rfl, rfl, ?_⟩
  | refine ⟨_, _, _, _, rfl, rfl, SqL.lst (by first | assumption | exact upd_same), rfl, ?_⟩
  | refine ⟨_, _, _, _, rfl, rfl, (by first | assumption | exact upd_same), rfl, ?_⟩
  | refine Or.inl ⟨_, rfl, ?_⟩
  | refine ⟨_, _, rfl, (by assumption), ?_⟩
  | refine ⟨by first | exact ⟨by decide, by decide, by decide⟩ | exact wide_mul (a := 64) (b := 64) (by omega) (by omega) (by decide) (by decide) (by decide) | exact wide_div (b := 64) (by omega) (by omega) (by decide) (by decide) | (show (0 : Int) < _; omega), ?_⟩))

def sp_law (K : PySem.W.Frag) : Sp := fun vs H Q _ => ∃ (a : Addr) (ns : List Int), vs = [.ref a] ∧ SqL K H a (ns.map V.int) ∧ ns.length ≤ 63 ∧ ∀ H', Q (.bl true) H'
section
variable {P : Program} {w : World} {K : PySem.W.Frag} {mg : Str → Option Value} {base : Heap}
/-- how far the numbers are bent: the first i of the places from first on -/
structure Bending (K : PySem.W.Frag) (H0 H : Hp) (p b : Addr) (first i m : Nat) (xs : List V) : Prop where
  top : H b = some (.lst xs)
  len : xs.length = 4
  ne : b ≠ p
  box : Box H p m
  low : ∀ j u, j < first → xs[j]? = some u → ∃ n : Nat, u = .int (n : Int) ∧ lowOf j ≤ (n : Int) ∧ n ≤ 300
  any : ∀ j u, xs[j]? = some u → (∃ n : Nat, u = .int (n : Int) ∧ n ≤ 300) ∨ Wr H (lowOf j) u
  at_ : 0 < i → ∃ v, xs[first]? = some v ∧ Wr H (lowOf first) v
theorem Bending.step {H0 H H' : Hp} {p b : Addr} {first i m m' : Nat} {xs : List V} (t : Bending K H0 H p b first i m xs) (s : But p H H') (x : Box H' p m') : Bending K H0 H' p b first i m' xs := by
  obtain ⟨c1, c2, ep, _⟩ := t.box
  have wr : ∀ {low : Int} {v : V}, Wr H low v → Wr H' low v := fun w => w.but s ep (by simp)
  exact ⟨s _ _ t.ne t.top, t.len, t.ne, x, t.low, fun j u h => (t.any j u h).imp id wr, fun h => (t.at_ h).imp fun v z => ⟨z.1, wr z.2⟩⟩
theorem Bending.put {H0 H : Hp} {p b : Addr} {first i m : Nat} {xs : List V} {v : V} (t : Bending K H0 H p b first i m xs) (hi : first + i < 4) (wv : Wr H (lowOf (first + i)) v) : Bending K H0 (upd H b (.lst (xs.set (first + i) v))) p b first (i + 1) m (xs.set (first + i) v) := by
  have wr : ∀ {low : Int} {u : V}, Wr H low u → Wr (upd H b (.lst (xs.set (first + i) v))) low u := fun w => w.but But.upd t.top (by rw [t.len]; decide)
  obtain ⟨c1, c2, ep, hc⟩ := t.box
  refine ⟨upd_same, by rw [List.length_set]; exact t.len, t.ne, ⟨c1, c2, (upd_ne t.ne.symm).trans ep, hc⟩, fun j u h e => ?_, fun j u e => ?_, fun _ => ?_⟩
  · rw [List.getElem?_set_ne (by omega)] at e
    exact t.low j u h e
  · by_cases z : first + i = j
    · subst z
      rw [List.getElem?_set_self (by rw [t.len]; exact hi)] at e
      cases e
      exact .inr (wr wv)
    · rw [List.getElem?_set_ne z] at e
      exact (t.any j u e).imp id wr
  · by_cases z : i = 0
    · subst z
      exact ⟨v, List.getElem?_set_self (by rw [t.len]; exact hi), wr wv⟩
    · obtain ⟨u, e, wu⟩ := t.at_ (by omega)
      exact ⟨u, by rw [List.getElem?_set_ne (by omega)]; exact e, wr wu⟩
theorem Bending.skip {H0 H : Hp} {p b : Addr} {first i m : Nat} {xs : List V} (t : Bending K H0 H p b first i m xs) (hi : i ≠ 0) : Bending K H0 H p b first (i + 1) m xs :=
  ⟨t.top, t.len, t.ne, t.box, t.low, t.any, fun _ => t.at_ (by omega)⟩
theorem ok__law_refused (T : TX K mg) : FnOk P w K mg base CX0 6 T.a__law_refused T.d__law_refused p__law_refused (spRefused K) := by
  have G__law_take := ok__law_take (P := P) (w := w) (base := base) T
  have G__law_wrong_number := ok__law_wrong_number (P := P) (w := w) (base := base) T
  have G__law_refusal := ok__law_refusal (P := P) (w := w) (base := base) T
  have G__law_same := ok__law_same (P := P) (w := w) (base := base) T
  refine T.F__law_refused.ok sc__law_refused (fun vs H Q E h => ?_) (fun cdv A outer s H vs Q E hr h => ?_)
  · obtain ⟨p, a, n, n0, n1, n2, n3, rfl, _⟩ := h
    rfl
  · obtain ⟨p, a, n, n0, n1, n2, n3, rfl, bx, hn, ha, hb, q⟩ := h
    refine ⟨_, (pss_cons (ps_set (i := 2) sc__law_refused.nd rfl (Or.inl rfl) (pe_call G__law_take (hr.mono (by decide)) (by rfl) T.m__law_take T.k__law_take T.b__law_take .nil pass0 (pa_cons (pv 0) (pa_cons pe_int pa_nil))))
      (pss_cons (ps_set (i := 3) sc__law_refused.nd rfl (Or.inl rfl) (pe_callTy call_list_of (by rfl) T.m_list (by decide +kernel) (pa_cons (pv 1) pa_nil)))
      (pss_cons (ps_for PassesOwn.never rfl (pi_range2 (by rfl) T.m_range (pa_cons (pv 2) (pa_cons pe_int pa_nil))) (pg_name (i := 4) sc__law_refused.nd rfl (Or.inl rfl))
      (pss_cons (ps_set (i := 5) sc__law_refused.nd rfl (Or.inl rfl) (pe_call G__law_wrong_number (hr.mono (by decide)) (by rfl) T.m__law_wrong_number T.k__law_wrong_number T.b__law_wrong_number .nil pass0 (pa_cons (pv 0) (pa_cons (pv 4) pa_nil))))
      (pss_one (ps_if (PW.pt (pw_or (pt_cmpR op_eq (pv 4) (pv 2) (nomark _)) (pw_or1 (pt_cmpR op_eq (pe_call G__law_take (hr.mono (by decide)) (by rfl) T.m__law_take T.k__law_take T.b__law_take .nil pass0 (pa_cons (pv 0) (pa_cons pe_int pa_nil))) pe_int (nomark _)))))
      (pss_one (ps_asg (pv 5) (pg_sub (pv 3) (pv 4) set_list)))
      pss_nil))))
      (pss_cons (ps_set (i := 6) sc__law_refused.nd rfl (Or.inl rfl) (pe_call G__law_refusal (hr.mono (by decide)) (by rfl) T.m__law_refusal T.k__law_refusal T.b__law_refusal .nil pass0 (pa_cons (pv 3) (pa_cons (pe_cmpR op_eq (pe_call G__law_take (hr.mono (by decide)) (by rfl) T.m__law_take T.k__law_take T.b__law_take .nil pass0 (pa_cons (pv 0) (pa_cons pe_int pa_nil))) pe_int (nomark _)) pa_nil))))
      (pss_one (ps_ret (pe_and (pe_cmpR op_eq (pe_ix ix_tup (pv 6) pe_int (fun _ _ => rfl)) pe_str (nomark _)) (pe_one (pe_call G__law_same (hr.mono (by decide)) (by rfl) T.m__law_same T.k__law_same T.b__law_same .nil pass0 (pa_cons (pe_ix ix_tup (pv 6) pe_int (fun _ _ => rfl)) (pa_cons (pe_ix ix_list (pv 3) (pv 2) (fun _ _ => rfl)) pa_nil))))))))))), ?_⟩
    have bx' := bx
    obtain ⟨c1, c2, ep, _⟩ := bx'
    refine ⟨_, rfl, p, 4, n, rfl, bx, by omega, by decide, by decide, fun first H1 h1 b1 x1 => ?_⟩
    have nea : a ≠ p := fun z => by
      rw [z, ep] at ha
      cases ha
    refine ⟨_, rfl, a, _, rfl, .inl (SqL.lst (b1 _ _ nea ha)), fun b nb => ?_⟩
    obtain ⟨c3, c4, ep1, _⟩ := x1
    have ok0 : ∀ j u, ([.int (n0 : Int), .int (n1 : Int), .int (n2 : Int), .int (n3 : Int)] : List V)[j]? = some u → ∃ n : Nat, u = .int (n : Int) ∧ lowOf j ≤ (n : Int) ∧ n ≤ 300 := fun j u e => by
      match j, e with
      | 0, e => cases e; exact ⟨n0, rfl, by unfold lowOf; rw [if_pos rfl]; omega, by omega⟩
      | 1, e => cases e; exact ⟨n1, rfl, by unfold lowOf; rw [if_neg (by decide)]; omega, by omega⟩
      | 2, e => cases e; exact ⟨n2, rfl, by unfold lowOf; rw [if_neg (by decide)]; omega, by omega⟩
      | 3, e => cases e; exact ⟨n3, rfl, by unfold lowOf; rw [if_neg (by decide)]; omega, by omega⟩
      | j + 4, e => cases e
    have t0 : Bending K H1 (upd H1 b (.lst [.int (n0 : Int), .int (n1 : Int), .int (n2 : Int), .int (n3 : Int)])) p b first 0 (n + 1) [.int (n0 : Int), .int (n1 : Int), .int (n2 : Int), .int (n3 : Int)] :=
      ⟨upd_same, rfl, (fun z => by rw [z, ep1] at nb; cases nb), Box.same (same_new nb) ⟨c3, c4, ep1, by assumption⟩, fun j u _ e => ok0 j u e, fun j u e => .inl ((ok0 j u e).imp fun n z => ⟨z.1, z.2.2⟩), fun z => absurd z (by decide)⟩
    refine ⟨_, rfl, (first : Int), 4, rfl, ⟨by omega, by omega, by decide, by decide⟩, ?_⟩
    refine for_range (lo := (first : Int)) (n := (4 - (first : Int)).toNat) (fun i σ H' => ∃ (xs : List V) (y4 y5 : Option V), σ = [some (.ref p), some (.ref a), some (.int (first : Int)), some (.ref b), y4, y5, none] ∧ Bending K H1 H' p b first i (n + 1 + 3 * i) xs) ⟨_, none, none, rfl, t0⟩ (fun i σ H2 hi w => ?_) (fun σ H2 w => ?_)
    · obtain ⟨xs, y4, y5, rfl, t⟩ := w
      have hi4 : first + i < 4 := by omega
      refine ⟨_, rfl, _, rfl, p, first + i, n + 1 + 3 * i, by rw [show ((first + i : Nat) : Int) = (first : Int) + (i : Int) by omega] <;> rfl, t.box, by omega, fun v H3 b3 x3 w3 => ?_⟩
      have t3 := t.step b3 x3
      have fin : ∀ {H4 : Hp} {m : Nat}, Bending K H1 H4 p b first i m xs → m ≤ n + 1 + 3 * (i + 1) → Wr H4 (lowOf (first + i)) v → Bending K H1 (upd H4 b (.lst (xs.set (first + i) v))) p b first (i + 1) (n + 1 + 3 * (i + 1)) (xs.set (first + i) v) := fun t4 hm w4 => by
        have z := t4.put hi4 w4
        exact ⟨z.top, z.len, z.ne, z.box.mono hm, z.low, z.any, z.at_⟩
      refine ⟨_, rfl, _, rfl, rfl, _, rfl, ?_⟩
      refine iteB (fun e => ?_) (fun e => ?_)
      · refine iteT ⟨_, rfl, _, rfl, _, rfl, b, xs, _, first + i, rfl, rfl, t3.top, ixN_E (first + i) (by rw [t3.len]; exact hi4) (by omega), ?_⟩
        exact ⟨_, _, _, rfl, fin t3 (by omega) w3⟩
      · have i0 : i ≠ 0 := fun z => of_decide_eq_false e (congrArg V.int (by omega))
        obtain ⟨c5, c6, ep3, _⟩ := x3
        refine ⟨_, rfl, p, 3, n + 1 + 3 * i + 2, rfl, t3.box, by omega, by decide, by decide, fun d H4 hd b4 x4 => ⟨rfl, _, rfl, ?_⟩⟩
        have t4 := t3.step b4 x4
        refine iteB (fun e2 => ?_) (fun e2 => ?_)
        · refine ⟨_, rfl, _, rfl, _, rfl, b, xs, _, first + i, rfl, rfl, t4.top, ixN_E (first + i) (by rw [t4.len]; exact hi4) (by omega), ?_⟩
          exact ⟨_, _, _, rfl, fin t4 (by omega) (w3.but b4 ep3 (by simp))⟩
        · have z := t4.skip i0
          exact ⟨xs, _, _, rfl, z.top, z.len, z.ne, z.box.mono (by omega), z.low, z.any, z.at_⟩
    · obtain ⟨xs, y4, y5, rfl, t⟩ := w
      have hN : 0 < (4 - (first : Int)).toNat := by omega
      refine ⟨_, rfl, _, rfl, p, 2, _, rfl, t.box, by omega, by decide, by decide, fun d H3 hd b3 x3 => ⟨rfl, ?_⟩⟩
      have t3 := t.step b3 x3
      obtain ⟨v, ev, wv⟩ := t3.at_ hN
      refine ⟨b, xs, _, first, v, rfl, t3.top, ⟨t3.len, ev, wv, t3.low, t3.any⟩, fun r H4 s4 e4 => ?_⟩
      refine ⟨_, rfl, r, _, _, _, rfl, rfl, SqT.tup e4, rfl, rfl, _, rfl, ?_⟩
      rw [decide_eq_true rfl]
      refine iteT ⟨_, rfl, r, _, _, _, rfl, rfl, SqT.tup e4, rfl, _, rfl, _, rfl, b, xs, _, v, rfl, rfl, SqL.lst (s4 _ _ t3.top), atI_nat ev, v, _, rfl, wv.same s4, q _⟩
end
end K11

namespace K11
open PySem PySem.Spec PyProof.Rows L2
section
variable {P : Program} {w : World} {K : PySem.W.Frag} {mg : Str → Option Value} {base : Heap}
theorem ok_law {f : Addr} {fd : FuncData} (T : TX K mg) (F : Fun K "law" "law" s_law f fd) : FnOk P w K mg base CX0 7 f fd p_law (sp_law K) := by
  have G__law_box := ok__law_box (P := P) (w := w) (base := base) T
  have G__law_take := ok__law_take (P := P) (w := w) (base := base) T
  have G__law_row := ok__law_row (P := P) (w := w) (base := base) T
  have G__law_rows_merged := ok__law_rows_merged (P := P) (w := w) (base := base) T
  have G__law_any_numbers := ok__law_any_numbers (P := P) (w := w) (base := base) T
  have G_merges := ok_merges (P := P) (w := w) (base := base) T
  have G__law_is_number := ok__law_is_number (P := P) (w := w) (base := base) T
  have G__law_formula := ok__law_formula (P := P) (w := w) (base := base) T
  have G__law_refused := ok__law_refused (P := P) (w := w) (base := base) T
  refine F.ok sc_law (fun vs H Q E h => ?_) (fun cdv A outer s H vs Q E hr h => ?_)
  · obtain ⟨a, ns, rfl, _⟩ := h
    rfl
  · obtain ⟨a, ns, rfl, hS, hl, q⟩ := h
    refine ⟨_, (pss_cons (ps_set (i := 1) sc_law.nd rfl (Or.inl rfl) (pe_call G__law_box (hr.mono (by decide)) (by rfl) T.m__law_box T.k__law_box T.b__law_box .nil pass0 (pa_cons (pv 0) (pa_cons pe_int pa_nil))))
      (pss_cons (ps_set (i := 2) sc_law.nd rfl (Or.inl rfl) (pe_lst (pa_cons (pe_op op_add pe_int (pe_call G__law_take (hr.mono (by decide)) (by rfl) T.m__law_take T.k__law_take T.b__law_take .nil pass0 (pa_cons (pv 1) (pa_cons pe_int pa_nil)))) (pa_cons (pe_call G__law_take (hr.mono (by decide)) (by rfl) T.m__law_take T.k__law_take T.b__law_take .nil pass0 (pa_cons (pv 1) (pa_cons pe_int pa_nil))) pa_nil))))
      (Evl.pss_cut (ps_if (pt_cmpR op_eq (pe_call G__law_take (hr.mono (by decide)) (by rfl) T.m__law_take T.k__law_take T.b__law_take .nil pass0 (pa_cons (pv 1) (pa_cons pe_int pa_nil))) pe_int (nomark _))
      (pss_one (ps_set (i := 2) sc_law.nd rfl (Or.inl rfl) (pe_lst (pa_cons (pe_op op_add pe_int (pe_call G__law_take (hr.mono (by decide)) (by rfl) T.m__law_take T.k__law_take T.b__law_take .nil pass0 (pa_cons (pv 1) (pa_cons pe_int pa_nil)))) (pa_cons (pe_call G__law_take (hr.mono (by decide)) (by rfl) T.m__law_take T.k__law_take T.b__law_take .nil pass0 (pa_cons (pv 1) (pa_cons pe_int pa_nil))) pa_nil)))))
      pss_nil)
      (pss_cons (ps_set (i := 3) sc_law.nd rfl (Or.inl rfl) (pe_lst (pa_cons (pe_call G__law_take (hr.mono (by decide)) (by rfl) T.m__law_take T.k__law_take T.b__law_take .nil pass0 (pa_cons (pv 1) (pa_cons pe_int pa_nil))) (pa_cons (pe_call G__law_take (hr.mono (by decide)) (by rfl) T.m__law_take T.k__law_take T.b__law_take .nil pass0 (pa_cons (pv 1) (pa_cons pe_int pa_nil))) pa_nil))))
      (pss_cons (ps_set (i := 4) sc_law.nd rfl (Or.inl rfl) (pe_call G__law_row (hr.mono (by decide)) (by rfl) T.m__law_row T.k__law_row T.b__law_row .nil pass0 (pa_cons (pe_call G__law_box (hr.mono (by decide)) (by rfl) T.m__law_box T.k__law_box T.b__law_box .nil pass0 (pa_cons (pv 0) (pa_cons pe_int pa_nil))) (pa_cons (pe_ix ix_list (pv 2) pe_int (fun _ _ => rfl)) (pa_cons (pe_ix ix_list (pv 3) pe_int (fun _ _ => rfl)) pa_nil)))))
      (pss_cons (ps_set (i := 5) sc_law.nd rfl (Or.inl rfl) (pe_call G__law_row (hr.mono (by decide)) (by rfl) T.m__law_row T.k__law_row T.b__law_row .nil pass0 (pa_cons (pe_call G__law_box (hr.mono (by decide)) (by rfl) T.m__law_box T.k__law_box T.b__law_box .nil pass0 (pa_cons (pv 0) (pa_cons pe_int pa_nil))) (pa_cons (pe_ix ix_list (pv 2) pe_int (fun _ _ => rfl)) (pa_cons (pe_ix ix_list (pv 3) pe_int (fun _ _ => rfl)) pa_nil)))))
      (pss_cons (ps_if (pt_not (pt_val (pe_call G__law_rows_merged (hr.mono (by decide)) (by rfl) T.m__law_rows_merged T.k__law_rows_merged T.b__law_rows_merged .nil pass0 (pa_cons (pv 4) (pa_cons (pv 5) (pa_cons (pe_call G__law_take (hr.mono (by decide)) (by rfl) T.m__law_take T.k__law_take T.b__law_take .nil pass0 (pa_cons (pv 1) (pa_cons pe_int pa_nil))) pa_nil))))))
      (pss_one (ps_ret pe_bl))
      pss_nil)
      (pss_cons (ps_set (i := 6) sc_law.nd rfl (Or.inl rfl) (pe_call G__law_any_numbers (hr.mono (by decide)) (by rfl) T.m__law_any_numbers T.k__law_any_numbers T.b__law_any_numbers .nil pass0 (pa_cons (pe_call G__law_box (hr.mono (by decide)) (by rfl) T.m__law_box T.k__law_box T.b__law_box .nil pass0 (pa_cons (pv 0) (pa_cons pe_int pa_nil))) pa_nil)))
      (pss_cons (ps_for PassesOwn.never rfl (pi_tup (pe_tup (pa_cons pe_bl (pa_cons pe_bl pa_nil)))) (pg_name (i := 7) sc_law.nd rfl (Or.inl rfl))
      (pss_cons (ps_set (i := 8) sc_law.nd rfl (Or.inl rfl) (pe_callN G_merges (hr.mono (by decide)) (by rfl) T.m_merges T.k_merges T.kb_merges passL (pa_cons (pe_ix ix_list (pv 6) pe_int (fun _ _ => rfl)) (pa_cons (pe_ix ix_list (pv 6) pe_int (fun _ _ => rfl)) (pa_cons (pe_ix ix_list (pv 6) pe_int (fun _ _ => rfl)) (pa_cons (pe_ix ix_list (pv 6) pe_int (fun _ _ => rfl)) pa_nil)))) (pk_cons (pv 7) pk_nil)))
      (pss_one (ps_if (pt_not (pt_val (pe_call G__law_is_number (hr.mono (by decide)) (by rfl) T.m__law_is_number T.k__law_is_number T.b__law_is_number .nil pass0 (pa_cons (pv 8) (pa_cons (pe_call G__law_formula (hr.mono (by decide)) (by rfl) T.m__law_formula T.k__law_formula T.b__law_formula .nil pass0 (pa_cons (pv 6) (pa_cons (pv 7) pa_nil))) pa_nil)))))
      (pss_one (ps_ret pe_bl))
      pss_nil))))
      (pss_one (ps_ret (pe_call G__law_refused (hr.mono (by decide)) (by rfl) T.m__law_refused T.k__law_refused T.b__law_refused .nil pass0 (pa_cons (pe_call G__law_box (hr.mono (by decide)) (by rfl) T.m__law_box T.k__law_box T.b__law_box .nil pass0 (pa_cons (pv 0) (pa_cons pe_int pa_nil))) (pa_cons (pv 6) pa_nil)))))))))))))), ?_⟩
    refine ⟨_, rfl, a, ns, 0, rfl, by omega, hS, fun p H1 np s1 x1 => ?_⟩
    refine ⟨_, rfl, p, 9, 0, rfl, x1, by omega, by decide, by decide, fun d1 H2 h1 b2 x2 => ⟨_, _, rfl, rfl, ?_⟩⟩
    refine ⟨_, rfl, p, 10, 0 + 1, rfl, x2, by omega, by decide, by decide, fun d2 H3 h2 b3 x3 => ⟨by show 2 ≤ sizeLine; decide, fun z nz => ?_⟩⟩
    have s3 : Same H H3 := But.same np s1 (b2.trans b3)
    have x4 := Box.same (same_new (o := .lst [.int (1 + (d1 : Int)), .int (d2 : Int)]) nz) x3
    have s4 := s3.trans (same_new (o := .lst [.int (1 + (d1 : Int)), .int (d2 : Int)]) nz)
    have zp : z ≠ p := fun e => by
      obtain ⟨c1, c2, ep, _⟩ := x3
      rw [e, ep] at nz
      cases nz
    -- the sizes
    refine ⟨fun σ' H' => ∃ (z : Addr) (m1 m2 : Nat), σ' = [some (.ref a), some (.ref p), some (.ref z), none, none, none, none, none, none] ∧ H' z = some (.lst [.int (m1 : Int), .int (m2 : Int)]) ∧ (1 ≤ m1 ∧ m1 ≤ 30 ∧ m2 ≤ 30) ∧ z ≠ p ∧ Same H H' ∧ Box H' p 10, ?_, fun σ' H' w => ?_⟩
    · refine ⟨_, rfl, p, 8, 0 + 1 + 1, rfl, x4, by omega, by decide, by decide, fun d H5 hd b5 x5 => ⟨rfl, _, rfl, ?_⟩⟩
      have s5 := But.same np s1 (b2.trans (b3.trans ((But.of (same_new nz)).trans b5)))
      refine iteB (fun e => ?_) (fun e => ?_)
      · refine ⟨_, rfl, p, 30, _, rfl, x5, by omega, by decide, by decide, fun e1 H6 g1 b6 x6 => ⟨_, _, rfl, rfl, ?_⟩⟩
        refine ⟨_, rfl, p, 31, _, rfl, x6, by omega, by decide, by decide, fun e2 H7 g2 b7 x7 => ⟨by show 2 ≤ sizeLine; decide, fun y ny => ?_⟩⟩
        have yp : y ≠ p := fun e => by
          obtain ⟨c1, c2, ep, _⟩ := x7
          rw [e, ep] at ny
          cases ny
        refine ⟨y, 1 + e1, e2, rfl, by rw [upd_same] <;> rfl, by omega, yp, ?_, Box.mono (Box.same (same_new ny) x7) (by omega)⟩
        exact (But.same np s1 (b2.trans (b3.trans ((But.of (same_new nz)).trans (b5.trans (b6.trans b7)))))).trans (same_new ny)
      · refine ⟨z, 1 + d1, d2, rfl, ?_, by omega, zp, s5, Box.mono x5 (by omega)⟩
        have e := b5 _ _ zp (upd_same (H := H3) (a := z) (o := .lst [.int (1 + (d1 : Int)), .int (d2 : Int)]))
        rw [e]
        rfl
    obtain ⟨z, m1, m2, rfl, ez, bm, zp, s5, x5⟩ := w
    -- the ways
    refine ⟨_, rfl, p, 5, _, rfl, x5, by omega, by decide, by decide, fun w1 H6 hw1 b6 x6 => ?_⟩
    refine ⟨_, rfl, p, 5, _, rfl, x6, by omega, by decide, by decide, fun w2 H7 hw2 b7 x7 => ⟨by show 2 ≤ sizeLine; decide, fun y ny => ?_⟩⟩
    have s7 : Same H H7 := But.same np s5 (b6.trans b7)
    have s8 := s7.trans (same_new (o := .lst [.int (w1 : Int), .int (w2 : Int)]) ny)
    have x8 := Box.same (same_new (o := .lst [.int (w1 : Int), .int (w2 : Int)]) ny) x7
    have ez8 := (same_new (o := .lst [.int (w1 : Int), .int (w2 : Int)]) ny) _ _ ((b6.trans b7) _ _ zp ez)
    have ey8 : upd H7 y (.lst [.int (w1 : Int), .int (w2 : Int)]) y = some (.lst [.int (w1 : Int), .int (w2 : Int)]) := upd_same
    -- one
    refine ⟨_, rfl, a, ns, 1, rfl, by omega, s8.seq hS, fun p1 H9 np1 s9 x9 => ?_⟩
    refine ⟨_, rfl, z, _, _, _, rfl, rfl, SqL.lst (s9 _ _ ez8), rfl, _, rfl, y, _, _, _, rfl, rfl, SqL.lst (s9 _ _ ey8), rfl, p1, m1, w1, 0, rfl, x9, by omega, by omega, hw1, fun xs H10 hxs b10 => ?_⟩
    have s10 := But.same np1 s9 b10
    -- other
    refine ⟨_, rfl, a, ns, 2, rfl, by omega, (s8.trans s10).seq hS, fun p2 H11 np2 s11 x11 => ?_⟩
    refine ⟨_, rfl, z, _, _, _, rfl, rfl, SqL.lst (s11 _ _ (s10 _ _ ez8)), rfl, _, rfl, y, _, _, _, rfl, rfl, SqL.lst (s11 _ _ (s10 _ _ ey8)), rfl, p2, m2, w2, 0, rfl, x11, by omega, by omega, hw2, fun ys H12 hys b12 => ?_⟩
    have s12 := s10.trans (But.same np2 s11 b12)
    -- the rows merged
    refine ⟨_, rfl, _, rfl, _, rfl, p, 9, _, rfl, Box.same s12 x8, by omega, by decide, by decide, fun n H13 hn b13 x13 => ?_⟩
    have s13 : Same H H13 := But.same np (s8.trans s12) b13
    refine ⟨xs, ys, n, rfl, by omega, by omega, by omega, by omega, fun H14 s14 => ⟨_, rfl, iteF ?_⟩⟩
    -- any numbers
    refine ⟨_, rfl, a, ns, 3, rfl, by omega, (s13.trans s14).seq hS, fun p3 H15 np3 s15 x15 => ?_⟩
    refine ⟨p3, 0, rfl, x15, by omega, fun r n0 n1 n2 n3 H16 nr b16 er hb => ?_⟩
    have s16 : Same H H16 := (s13.trans s14).trans (But.same np3 s15 b16)
    refine ⟨by show 2 ≤ sizeLine; decide, fun t nt => ⟨t, rfl, ⟨_, SqT.tup upd_same⟩, ?_⟩⟩
    refine for_tup (xs := [.bl false, .bl true]) (fun i σ H' => ∃ y7 y8 : Option V, σ = [some (.ref a), some (.ref p), some (.ref z), some (.ref y), some (.str (rowS xs)), some (.str (rowS ys)), some (.ref r), y7, y8] ∧ H' = upd H16 t (.tup [.bl false, .bl true])) ⟨none, none, rfl, rfl⟩ (fun i σ H' hi w => ?_) (fun i x σ H' hx w => ?_) (fun σ H' w => ?_)
    · obtain ⟨_, _, _, rfl⟩ := w
      exact SqT.tup upd_same
    · obtain ⟨y7, y8, rfl, rfl⟩ := w
      obtain ⟨same, rfl⟩ : ∃ same, x = .bl same := by
        match i, hx with
        | 0, e => cases e; exact ⟨false, rfl⟩
        | 1, e => cases e; exact ⟨true, rfl⟩
        | i + 2, e => cases e
      have er' := (same_new (o := .tup [.bl false, .bl true]) nt) _ _ er
      refine ⟨_, rfl, r, _, _, _, rfl, rfl, SqL.lst er', rfl, _, rfl, r, _, _, _, rfl, rfl, SqL.lst er', rfl, _, rfl, r, _, _, _, rfl, rfl, SqL.lst er', rfl, _, rfl, r, _, _, _, rfl, rfl, SqL.lst er', rfl, _, rfl, rfl, rfl, spMerges_ok (by omega) ?_⟩
      refine ⟨_, rfl, _, rfl, _, rfl, r, n0, n1, n2, n3, same, rfl, SqL.lst er', by omega, _, rfl, _, rfl, iteF ?_⟩
      exact ⟨_, _, rfl, rfl⟩
    · obtain ⟨y7, y8, rfl, rfl⟩ := w
      have s17 := s16.trans (same_new (o := .tup [.bl false, .bl true]) nt)
      refine ⟨_, rfl, a, ns, 4, rfl, by omega, s17.seq hS, fun p4 H18 np4 s18 x18 => ?_⟩
      exact ⟨_, rfl, p4, r, 0, n0, n1, n2, n3, rfl, x18, by omega, s18 _ _ ((same_new nt) _ _ er), by omega, fun _ => q _⟩
end
end K11

namespace K11
open PySem PySem.Spec PyProof.Rows L2
theorem all_mk {l : PySem.W.OpenLaw} {w : World} {K : PySem.W.Frag} {h : Heap} {mg : Str → Option Value} {fa : Addr} (X : K.In h) (G : h.Ns mainGlobals mg) (hfa : mg "law" = some (.ref fa))
    {C_CacheError C_InvalidNumber C_InvalidRow C_InvalidFlags C_InvalidLine C_InvalidSlot C_InvalidText C_Refused C_TooMany : Addr} {nm_E q_E : Str} {N_E : Addr} {bs_E : List Value} {sn_E : List Str} {sub_E : List Value} {ab_E : Bool} {col_E : Option Bool} {dd_E : Option Addr} {m0_E m1_E m2_E m3_E m5_E : Option Value}
    {f_InvalidNumber_init : Addr} {od_InvalidNumber_init an_InvalidNumber_init : Option Addr} {sl_InvalidNumber_init : Array (Option Value)} {oc_InvalidNumber_init kV_InvalidNumber_init dc_InvalidNumber_init pm_InvalidNumber_init cd_InvalidNumber_init ct_InvalidNumber_init : Value}
    {f_is_whole : Addr} {od_is_whole an_is_whole : Option Addr} {sl_is_whole : Array (Option Value)} {oc_is_whole kV_is_whole dc_is_whole pm_is_whole cd_is_whole ct_is_whole : Value}
    {f_is_number : Addr} {od_is_number an_is_number : Option Addr} {sl_is_number : Array (Option Value)} {oc_is_number kV_is_number dc_is_number pm_is_number cd_is_number ct_is_number : Value}
    {f_check_number : Addr} {od_check_number an_check_number : Option Addr} {sl_check_number : Array (Option Value)} {oc_check_number kV_check_number dc_check_number pm_check_number cd_check_number ct_check_number : Value}
    {f_is_made_of : Addr} {od_is_made_of an_is_made_of : Option Addr} {sl_is_made_of : Array (Option Value)} {oc_is_made_of kV_is_made_of dc_is_made_of pm_is_made_of cd_is_made_of ct_is_made_of : Value}
    {f_is_row : Addr} {od_is_row an_is_row : Option Addr} {sl_is_row : Array (Option Value)} {oc_is_row kV_is_row dc_is_row pm_is_row cd_is_row ct_is_row : Value}
    {f_choose : Addr} {od_choose an_choose : Option Addr} {sl_choose : Array (Option Value)} {oc_choose kV_choose dc_choose pm_choose cd_choose ct_choose : Value}
    {f_block_count : Addr} {od_block_count an_block_count : Option Addr} {sl_block_count : Array (Option Value)} {oc_block_count kV_block_count dc_block_count pm_block_count cd_block_count ct_block_count : Value}
    {f_merge_count : Addr} {od_merge_count an_merge_count : Option Addr} {sl_merge_count : Array (Option Value)} {oc_merge_count kV_merge_count dc_merge_count pm_merge_count cd_merge_count ct_merge_count : Value}
    {f_check_row : Addr} {od_check_row an_check_row : Option Addr} {sl_check_row : Array (Option Value)} {oc_check_row kV_check_row dc_check_row pm_check_row cd_check_row ct_check_row : Value}
    {f_cut_count : Addr} {od_cut_count an_cut_count : Option Addr} {sl_cut_count : Array (Option Value)} {oc_cut_count kV_cut_count dc_cut_count pm_cut_count cd_cut_count ct_cut_count : Value}
    {f_merges : Addr} {od_merges an_merges : Option Addr} {sl_merges : Array (Option Value)} {oc_merges kV_merges dc_merges pm_merges cd_merges ct_merges : Value}
    {f__law_cell : Addr} {od__law_cell an__law_cell : Option Addr} {sl__law_cell : Array (Option Value)} {oc__law_cell kV__law_cell dc__law_cell pm__law_cell cd__law_cell ct__law_cell : Value}
    {f__law_box : Addr} {od__law_box an__law_box : Option Addr} {sl__law_box : Array (Option Value)} {oc__law_box kV__law_box dc__law_box pm__law_box cd__law_box ct__law_box : Value}
    {f__law_take : Addr} {od__law_take an__law_take : Option Addr} {sl__law_take : Array (Option Value)} {oc__law_take kV__law_take dc__law_take pm__law_take cd__law_take ct__law_take : Value}
    {f__law_row : Addr} {od__law_row an__law_row : Option Addr} {sl__law_row : Array (Option Value)} {oc__law_row kV__law_row dc__law_row pm__law_row cd__law_row ct__law_row : Value}
    {f__law_least : Addr} {od__law_least an__law_least : Option Addr} {sl__law_least : Array (Option Value)} {oc__law_least kV__law_least dc__law_least pm__law_least cd__law_least ct__law_least : Value}
    {f__law_talks : Addr} {od__law_talks an__law_talks : Option Addr} {sl__law_talks : Array (Option Value)} {oc__law_talks kV__law_talks dc__law_talks pm__law_talks cd__law_talks ct__law_talks : Value}
    {f__law_choose : Addr} {od__law_choose an__law_choose : Option Addr} {sl__law_choose : Array (Option Value)} {oc__law_choose kV__law_choose dc__law_choose pm__law_choose cd__law_choose ct__law_choose : Value}
    {f__law_formula : Addr} {od__law_formula an__law_formula : Option Addr} {sl__law_formula : Array (Option Value)} {oc__law_formula kV__law_formula dc__law_formula pm__law_formula cd__law_formula ct__law_formula : Value}
    {f__law_is_number : Addr} {od__law_is_number an__law_is_number : Option Addr} {sl__law_is_number : Array (Option Value)} {oc__law_is_number kV__law_is_number dc__law_is_number pm__law_is_number cd__law_is_number ct__law_is_number : Value}
    {f__law_sum : Addr} {od__law_sum an__law_sum : Option Addr} {sl__law_sum : Array (Option Value)} {oc__law_sum kV__law_sum dc__law_sum pm__law_sum cd__law_sum ct__law_sum : Value}
    {f__law_rows_merged : Addr} {od__law_rows_merged an__law_rows_merged : Option Addr} {sl__law_rows_merged : Array (Option Value)} {oc__law_rows_merged kV__law_rows_merged dc__law_rows_merged pm__law_rows_merged cd__law_rows_merged ct__law_rows_merged : Value}
    {f__law_any_numbers : Addr} {od__law_any_numbers an__law_any_numbers : Option Addr} {sl__law_any_numbers : Array (Option Value)} {oc__law_any_numbers kV__law_any_numbers dc__law_any_numbers pm__law_any_numbers cd__law_any_numbers ct__law_any_numbers : Value}
    {f__law_wrong_number : Addr} {od__law_wrong_number an__law_wrong_number : Option Addr} {sl__law_wrong_number : Array (Option Value)} {oc__law_wrong_number kV__law_wrong_number dc__law_wrong_number pm__law_wrong_number cd__law_wrong_number ct__law_wrong_number : Value}
    {f__law_refusal : Addr} {od__law_refusal an__law_refusal : Option Addr} {sl__law_refusal : Array (Option Value)} {oc__law_refusal kV__law_refusal dc__law_refusal pm__law_refusal cd__law_refusal ct__law_refusal : Value}
    {f__law_same : Addr} {od__law_same an__law_same : Option Addr} {sl__law_same : Array (Option Value)} {oc__law_same kV__law_same dc__law_same pm__law_same cd__law_same ct__law_same : Value}
    {f__law_refused : Addr} {od__law_refused an__law_refused : Option Addr} {sl__law_refused : Array (Option Value)} {oc__law_refused kV__law_refused dc__law_refused pm__law_refused cd__law_refused ct__law_refused : Value}
    {f_law : Addr} {od_law an_law : Option Addr} {sl_law : Array (Option Value)} {oc_law kV_law dc_law pm_law cd_law ct_law : Value}
    (aC_InvalidNumber : PySem.W.nsIn K mainGlobals "InvalidNumber" = some (some (.ref C_InvalidNumber)))
    (xL_InvalidNumber : K.lookup C_InvalidNumber = some (excClassObj nm_E q_E C_InvalidNumber N_E bs_E [.ref C_CacheError, .type "ValueError", .type "Exception", .type "BaseException", .type "object"] true sn_E sub_E ab_E col_E dd_E m0_E m1_E m2_E m3_E m5_E "ValueError.__new__"))
    (sa_E : PySem.W.findIn K (.ref C_InvalidNumber) "__setattr__" = some (some (.builtin "object.__setattr__")))
    (ga_E : PySem.W.findIn K (.ref C_InvalidNumber) "__getattribute__" = some (some (.builtin "BaseException.__getattribute__")))
    (gg_E : PySem.W.findIn K (.ref C_InvalidNumber) "__getattr__" = some none)
    (nb_E : PySem.W.findIn K (.ref C_InvalidNumber) "number" = some none)
    (kC_E : PySem.W.keepIn K (.ref C_InvalidNumber) = true)
    (eC_E : PySem.W.subIn K (.ref C_InvalidNumber) (.type "BaseException") = some true)
    (tC_E : PySem.W.typeIn K (.ref C_InvalidNumber) = some (.type "type"))
    (hC_E : PySem.W.hasDictIn K C_InvalidNumber = true)
    (ha_E : PySem.W.findIn K (.ref C_InvalidNumber) "__class__" = some (some (.builtin "object.__class__")))
    (hn_E : PySem.W.specialIn K (.builtin "object.__class__") "__get__" = some (some (.builtin "getset_descriptor.__get__")))
    (ht_E : PySem.W.takesIn K (.builtin "object.__class__") = some true)
    (hm_E : PySem.W.mroIn K C_InvalidNumber (.type "object") = some true)
    (aC_CacheError : PySem.W.nsIn K mainGlobals "CacheError" = some (some (.ref C_CacheError)))
    (xm_E : PySem.W.exmOne K (.ref C_InvalidNumber) (.ref C_CacheError) = some true)
    (q0_E : PySem.W.kitOne K (.ref C_InvalidNumber) (.ref C_InvalidNumber) = some true)
    (qV_E : PySem.W.kitOne K (.ref C_InvalidNumber) (.type "ValueError") = some true)
    (aC_comb : PySem.W.nsIn K mainGlobals "comb" = some (some (.builtin "math.comb")))
    (aC_InvalidRow : PySem.W.nsIn K mainGlobals "InvalidRow" = some (some (.ref C_InvalidRow)))
    (qC_InvalidRow : PySem.W.kitOne K (.ref C_InvalidNumber) (.ref C_InvalidRow) = some false)
    (aC_InvalidFlags : PySem.W.nsIn K mainGlobals "InvalidFlags" = some (some (.ref C_InvalidFlags)))
    (qC_InvalidFlags : PySem.W.kitOne K (.ref C_InvalidNumber) (.ref C_InvalidFlags) = some false)
    (aC_InvalidLine : PySem.W.nsIn K mainGlobals "InvalidLine" = some (some (.ref C_InvalidLine)))
    (qC_InvalidLine : PySem.W.kitOne K (.ref C_InvalidNumber) (.ref C_InvalidLine) = some false)
    (aC_InvalidSlot : PySem.W.nsIn K mainGlobals "InvalidSlot" = some (some (.ref C_InvalidSlot)))
    (qC_InvalidSlot : PySem.W.kitOne K (.ref C_InvalidNumber) (.ref C_InvalidSlot) = some false)
    (aC_InvalidText : PySem.W.nsIn K mainGlobals "InvalidText" = some (some (.ref C_InvalidText)))
    (qC_InvalidText : PySem.W.kitOne K (.ref C_InvalidNumber) (.ref C_InvalidText) = some false)
    (aC_Refused : PySem.W.nsIn K mainGlobals "Refused" = some (some (.ref C_Refused)))
    (qC_Refused : PySem.W.kitOne K (.ref C_InvalidNumber) (.ref C_Refused) = some false)
    (aC_TooMany : PySem.W.nsIn K mainGlobals "TooMany" = some (some (.ref C_TooMany)))
    (qC_TooMany : PySem.W.kitOne K (.ref C_InvalidNumber) (.ref C_TooMany) = some false)
    (a1_InvalidNumber_init : PySem.W.findIn K (.ref C_InvalidNumber) "__init__" = some (some (.ref f_InvalidNumber_init)))
    (t1_InvalidNumber_init : PySem.W.typeIn K (.ref f_InvalidNumber_init) = some (.type "function"))
    (l1_InvalidNumber_init : K.lookup f_InvalidNumber_init = some ⟨oc_InvalidNumber_init, od_InvalidNumber_init, .func (PySem.W.fnOf "__init__" "InvalidNumber.__init__" (defArgs s_InvalidNumber_init) (defBody s_InvalidNumber_init) (defScope s_InvalidNumber_init) .none kV_InvalidNumber_init dc_InvalidNumber_init pm_InvalidNumber_init an_InvalidNumber_init cd_InvalidNumber_init ct_InvalidNumber_init), sl_InvalidNumber_init⟩)
    (c1_InvalidNumber_init : PySem.W.codeIn K cd_InvalidNumber_init "InvalidNumber.__init__" = true)
    (k1_InvalidNumber_init : PySem.W.keepIn K (.ref f_InvalidNumber_init) = true)
    (a1_is_whole : PySem.W.nsIn K mainGlobals "is_whole" = some (some (.ref f_is_whole)))
    (l1_is_whole : K.lookup f_is_whole = some ⟨oc_is_whole, od_is_whole, .func (PySem.W.fnOf "is_whole" "is_whole" (defArgs s_is_whole) (defBody s_is_whole) (defScope s_is_whole) .none kV_is_whole dc_is_whole pm_is_whole an_is_whole cd_is_whole ct_is_whole), sl_is_whole⟩)
    (c1_is_whole : PySem.W.codeIn K cd_is_whole "is_whole" = true)
    (k1_is_whole : PySem.W.keepIn K (.ref f_is_whole) = true)
    (a1_is_number : PySem.W.nsIn K mainGlobals "is_number" = some (some (.ref f_is_number)))
    (l1_is_number : K.lookup f_is_number = some ⟨oc_is_number, od_is_number, .func (PySem.W.fnOf "is_number" "is_number" (defArgs s_is_number) (defBody s_is_number) (defScope s_is_number) .none kV_is_number dc_is_number pm_is_number an_is_number cd_is_number ct_is_number), sl_is_number⟩)
    (c1_is_number : PySem.W.codeIn K cd_is_number "is_number" = true)
    (k1_is_number : PySem.W.keepIn K (.ref f_is_number) = true)
    (a1_check_number : PySem.W.nsIn K mainGlobals "check_number" = some (some (.ref f_check_number)))
    (l1_check_number : K.lookup f_check_number = some ⟨oc_check_number, od_check_number, .func (PySem.W.fnOf "check_number" "check_number" (defArgs s_check_number) (defBody s_check_number) (defScope s_check_number) .none kV_check_number dc_check_number pm_check_number an_check_number cd_check_number ct_check_number), sl_check_number⟩)
    (c1_check_number : PySem.W.codeIn K cd_check_number "check_number" = true)
    (k1_check_number : PySem.W.keepIn K (.ref f_check_number) = true)
    (a1_is_made_of : PySem.W.nsIn K mainGlobals "is_made_of" = some (some (.ref f_is_made_of)))
    (l1_is_made_of : K.lookup f_is_made_of = some ⟨oc_is_made_of, od_is_made_of, .func (PySem.W.fnOf "is_made_of" "is_made_of" (defArgs s_is_made_of) (defBody s_is_made_of) (defScope s_is_made_of) .none kV_is_made_of dc_is_made_of pm_is_made_of an_is_made_of cd_is_made_of ct_is_made_of), sl_is_made_of⟩)
    (c1_is_made_of : PySem.W.codeIn K cd_is_made_of "is_made_of" = true)
    (k1_is_made_of : PySem.W.keepIn K (.ref f_is_made_of) = true)
    (a1_is_row : PySem.W.nsIn K mainGlobals "is_row" = some (some (.ref f_is_row)))
    (l1_is_row : K.lookup f_is_row = some ⟨oc_is_row, od_is_row, .func (PySem.W.fnOf "is_row" "is_row" (defArgs s_is_row) (defBody s_is_row) (defScope s_is_row) .none kV_is_row dc_is_row pm_is_row an_is_row cd_is_row ct_is_row), sl_is_row⟩)
    (c1_is_row : PySem.W.codeIn K cd_is_row "is_row" = true)
    (k1_is_row : PySem.W.keepIn K (.ref f_is_row) = true)
    (a1_choose : PySem.W.nsIn K mainGlobals "choose" = some (some (.ref f_choose)))
    (l1_choose : K.lookup f_choose = some ⟨oc_choose, od_choose, .func (PySem.W.fnOf "choose" "choose" (defArgs s_choose) (defBody s_choose) (defScope s_choose) .none kV_choose dc_choose pm_choose an_choose cd_choose ct_choose), sl_choose⟩)
    (c1_choose : PySem.W.codeIn K cd_choose "choose" = true)
    (k1_choose : PySem.W.keepIn K (.ref f_choose) = true)
    (a1_block_count : PySem.W.nsIn K mainGlobals "block_count" = some (some (.ref f_block_count)))
    (l1_block_count : K.lookup f_block_count = some ⟨oc_block_count, od_block_count, .func (PySem.W.fnOf "block_count" "block_count" (defArgs s_block_count) (defBody s_block_count) (defScope s_block_count) .none kV_block_count dc_block_count pm_block_count an_block_count cd_block_count ct_block_count), sl_block_count⟩)
    (c1_block_count : PySem.W.codeIn K cd_block_count "block_count" = true)
    (k1_block_count : PySem.W.keepIn K (.ref f_block_count) = true)
    (a1_merge_count : PySem.W.nsIn K mainGlobals "merge_count" = some (some (.ref f_merge_count)))
    (l1_merge_count : K.lookup f_merge_count = some ⟨oc_merge_count, od_merge_count, .func (PySem.W.fnOf "merge_count" "merge_count" (defArgs s_merge_count) (defBody s_merge_count) (defScope s_merge_count) .none kV_merge_count dc_merge_count pm_merge_count an_merge_count cd_merge_count ct_merge_count), sl_merge_count⟩)
    (c1_merge_count : PySem.W.codeIn K cd_merge_count "merge_count" = true)
    (k1_merge_count : PySem.W.keepIn K (.ref f_merge_count) = true)
    (a1_check_row : PySem.W.nsIn K mainGlobals "check_row" = some (some (.ref f_check_row)))
    (l1_check_row : K.lookup f_check_row = some ⟨oc_check_row, od_check_row, .func (PySem.W.fnOf "check_row" "check_row" (defArgs s_check_row) (defBody s_check_row) (defScope s_check_row) .none kV_check_row dc_check_row pm_check_row an_check_row cd_check_row ct_check_row), sl_check_row⟩)
    (c1_check_row : PySem.W.codeIn K cd_check_row "check_row" = true)
    (k1_check_row : PySem.W.keepIn K (.ref f_check_row) = true)
    (a1_cut_count : PySem.W.nsIn K mainGlobals "cut_count" = some (some (.ref f_cut_count)))
    (l1_cut_count : K.lookup f_cut_count = some ⟨oc_cut_count, od_cut_count, .func (PySem.W.fnOf "cut_count" "cut_count" (defArgs s_cut_count) (defBody s_cut_count) (defScope s_cut_count) .none kV_cut_count dc_cut_count pm_cut_count an_cut_count cd_cut_count ct_cut_count), sl_cut_count⟩)
    (c1_cut_count : PySem.W.codeIn K cd_cut_count "cut_count" = true)
    (k1_cut_count : PySem.W.keepIn K (.ref f_cut_count) = true)
    (a1_merges : PySem.W.nsIn K mainGlobals "merges" = some (some (.ref f_merges)))
    (l1_merges : K.lookup f_merges = some ⟨oc_merges, od_merges, .func (PySem.W.fnOf "merges" "merges" (defArgs s_merges) (defBody s_merges) (defScope s_merges) .none kV_merges dc_merges pm_merges an_merges cd_merges ct_merges), sl_merges⟩)
    (c1_merges : PySem.W.codeIn K cd_merges "merges" = true)
    (k1_merges : PySem.W.keepIn K (.ref f_merges) = true)
    (a1__law_cell : PySem.W.nsIn K mainGlobals "_law_cell" = some (some (.ref f__law_cell)))
    (l1__law_cell : K.lookup f__law_cell = some ⟨oc__law_cell, od__law_cell, .func (PySem.W.fnOf "_law_cell" "_law_cell" (defArgs s__law_cell) (defBody s__law_cell) (defScope s__law_cell) .none kV__law_cell dc__law_cell pm__law_cell an__law_cell cd__law_cell ct__law_cell), sl__law_cell⟩)
    (c1__law_cell : PySem.W.codeIn K cd__law_cell "_law_cell" = true)
    (k1__law_cell : PySem.W.keepIn K (.ref f__law_cell) = true)
    (a1__law_box : PySem.W.nsIn K mainGlobals "_law_box" = some (some (.ref f__law_box)))
    (l1__law_box : K.lookup f__law_box = some ⟨oc__law_box, od__law_box, .func (PySem.W.fnOf "_law_box" "_law_box" (defArgs s__law_box) (defBody s__law_box) (defScope s__law_box) .none kV__law_box dc__law_box pm__law_box an__law_box cd__law_box ct__law_box), sl__law_box⟩)
    (c1__law_box : PySem.W.codeIn K cd__law_box "_law_box" = true)
    (k1__law_box : PySem.W.keepIn K (.ref f__law_box) = true)
    (a1__law_take : PySem.W.nsIn K mainGlobals "_law_take" = some (some (.ref f__law_take)))
    (l1__law_take : K.lookup f__law_take = some ⟨oc__law_take, od__law_take, .func (PySem.W.fnOf "_law_take" "_law_take" (defArgs s__law_take) (defBody s__law_take) (defScope s__law_take) .none kV__law_take dc__law_take pm__law_take an__law_take cd__law_take ct__law_take), sl__law_take⟩)
    (c1__law_take : PySem.W.codeIn K cd__law_take "_law_take" = true)
    (k1__law_take : PySem.W.keepIn K (.ref f__law_take) = true)
    (a1__law_row : PySem.W.nsIn K mainGlobals "_law_row" = some (some (.ref f__law_row)))
    (l1__law_row : K.lookup f__law_row = some ⟨oc__law_row, od__law_row, .func (PySem.W.fnOf "_law_row" "_law_row" (defArgs s__law_row) (defBody s__law_row) (defScope s__law_row) .none kV__law_row dc__law_row pm__law_row an__law_row cd__law_row ct__law_row), sl__law_row⟩)
    (c1__law_row : PySem.W.codeIn K cd__law_row "_law_row" = true)
    (k1__law_row : PySem.W.keepIn K (.ref f__law_row) = true)
    (a1__law_least : PySem.W.nsIn K mainGlobals "_law_least" = some (some (.ref f__law_least)))
    (l1__law_least : K.lookup f__law_least = some ⟨oc__law_least, od__law_least, .func (PySem.W.fnOf "_law_least" "_law_least" (defArgs s__law_least) (defBody s__law_least) (defScope s__law_least) .none kV__law_least dc__law_least pm__law_least an__law_least cd__law_least ct__law_least), sl__law_least⟩)
    (c1__law_least : PySem.W.codeIn K cd__law_least "_law_least" = true)
    (k1__law_least : PySem.W.keepIn K (.ref f__law_least) = true)
    (a1__law_talks : PySem.W.nsIn K mainGlobals "_law_talks" = some (some (.ref f__law_talks)))
    (l1__law_talks : K.lookup f__law_talks = some ⟨oc__law_talks, od__law_talks, .func (PySem.W.fnOf "_law_talks" "_law_talks" (defArgs s__law_talks) (defBody s__law_talks) (defScope s__law_talks) .none kV__law_talks dc__law_talks pm__law_talks an__law_talks cd__law_talks ct__law_talks), sl__law_talks⟩)
    (c1__law_talks : PySem.W.codeIn K cd__law_talks "_law_talks" = true)
    (k1__law_talks : PySem.W.keepIn K (.ref f__law_talks) = true)
    (a1__law_choose : PySem.W.nsIn K mainGlobals "_law_choose" = some (some (.ref f__law_choose)))
    (l1__law_choose : K.lookup f__law_choose = some ⟨oc__law_choose, od__law_choose, .func (PySem.W.fnOf "_law_choose" "_law_choose" (defArgs s__law_choose) (defBody s__law_choose) (defScope s__law_choose) .none kV__law_choose dc__law_choose pm__law_choose an__law_choose cd__law_choose ct__law_choose), sl__law_choose⟩)
    (c1__law_choose : PySem.W.codeIn K cd__law_choose "_law_choose" = true)
    (k1__law_choose : PySem.W.keepIn K (.ref f__law_choose) = true)
    (a1__law_formula : PySem.W.nsIn K mainGlobals "_law_formula" = some (some (.ref f__law_formula)))
    (l1__law_formula : K.lookup f__law_formula = some ⟨oc__law_formula, od__law_formula, .func (PySem.W.fnOf "_law_formula" "_law_formula" (defArgs s__law_formula) (defBody s__law_formula) (defScope s__law_formula) .none kV__law_formula dc__law_formula pm__law_formula an__law_formula cd__law_formula ct__law_formula), sl__law_formula⟩)
    (c1__law_formula : PySem.W.codeIn K cd__law_formula "_law_formula" = true)
    (k1__law_formula : PySem.W.keepIn K (.ref f__law_formula) = true)
    (a1__law_is_number : PySem.W.nsIn K mainGlobals "_law_is_number" = some (some (.ref f__law_is_number)))
    (l1__law_is_number : K.lookup f__law_is_number = some ⟨oc__law_is_number, od__law_is_number, .func (PySem.W.fnOf "_law_is_number" "_law_is_number" (defArgs s__law_is_number) (defBody s__law_is_number) (defScope s__law_is_number) .none kV__law_is_number dc__law_is_number pm__law_is_number an__law_is_number cd__law_is_number ct__law_is_number), sl__law_is_number⟩)
    (c1__law_is_number : PySem.W.codeIn K cd__law_is_number "_law_is_number" = true)
    (k1__law_is_number : PySem.W.keepIn K (.ref f__law_is_number) = true)
    (a1__law_sum : PySem.W.nsIn K mainGlobals "_law_sum" = some (some (.ref f__law_sum)))
    (l1__law_sum : K.lookup f__law_sum = some ⟨oc__law_sum, od__law_sum, .func (PySem.W.fnOf "_law_sum" "_law_sum" (defArgs s__law_sum) (defBody s__law_sum) (defScope s__law_sum) .none kV__law_sum dc__law_sum pm__law_sum an__law_sum cd__law_sum ct__law_sum), sl__law_sum⟩)
    (c1__law_sum : PySem.W.codeIn K cd__law_sum "_law_sum" = true)
    (k1__law_sum : PySem.W.keepIn K (.ref f__law_sum) = true)
    (a1__law_rows_merged : PySem.W.nsIn K mainGlobals "_law_rows_merged" = some (some (.ref f__law_rows_merged)))
    (l1__law_rows_merged : K.lookup f__law_rows_merged = some ⟨oc__law_rows_merged, od__law_rows_merged, .func (PySem.W.fnOf "_law_rows_merged" "_law_rows_merged" (defArgs s__law_rows_merged) (defBody s__law_rows_merged) (defScope s__law_rows_merged) .none kV__law_rows_merged dc__law_rows_merged pm__law_rows_merged an__law_rows_merged cd__law_rows_merged ct__law_rows_merged), sl__law_rows_merged⟩)
    (c1__law_rows_merged : PySem.W.codeIn K cd__law_rows_merged "_law_rows_merged" = true)
    (k1__law_rows_merged : PySem.W.keepIn K (.ref f__law_rows_merged) = true)
    (a1__law_any_numbers : PySem.W.nsIn K mainGlobals "_law_any_numbers" = some (some (.ref f__law_any_numbers)))
    (l1__law_any_numbers : K.lookup f__law_any_numbers = some ⟨oc__law_any_numbers, od__law_any_numbers, .func (PySem.W.fnOf "_law_any_numbers" "_law_any_numbers" (defArgs s__law_any_numbers) (defBody s__law_any_numbers) (defScope s__law_any_numbers) .none kV__law_any_numbers dc__law_any_numbers pm__law_any_numbers an__law_any_numbers cd__law_any_numbers ct__law_any_numbers), sl__law_any_numbers⟩)
    (c1__law_any_numbers : PySem.W.codeIn K cd__law_any_numbers "_law_any_numbers" = true)
    (k1__law_any_numbers : PySem.W.keepIn K (.ref f__law_any_numbers) = true)
    (a1__law_wrong_number : PySem.W.nsIn K mainGlobals "_law_wrong_number" = some (some (.ref f__law_wrong_number)))
    (l1__law_wrong_number : K.lookup f__law_wrong_number = some ⟨oc__law_wrong_number, od__law_wrong_number, .func (PySem.W.fnOf "_law_wrong_number" "_law_wrong_number" (defArgs s__law_wrong_number) (defBody s__law_wrong_number) (defScope s__law_wrong_number) .none kV__law_wrong_number dc__law_wrong_number pm__law_wrong_number an__law_wrong_number cd__law_wrong_number ct__law_wrong_number), sl__law_wrong_number⟩)
    (c1__law_wrong_number : PySem.W.codeIn K cd__law_wrong_number "_law_wrong_number" = true)
    (k1__law_wrong_number : PySem.W.keepIn K (.ref f__law_wrong_number) = true)
    (a1__law_refusal : PySem.W.nsIn K mainGlobals "_law_refusal" = some (some (.ref f__law_refusal)))
    (l1__law_refusal : K.lookup f__law_refusal = some ⟨oc__law_refusal, od__law_refusal, .func (PySem.W.fnOf "_law_refusal" "_law_refusal" (defArgs s__law_refusal) (defBody s__law_refusal) (defScope s__law_refusal) .none kV__law_refusal dc__law_refusal pm__law_refusal an__law_refusal cd__law_refusal ct__law_refusal), sl__law_refusal⟩)
    (c1__law_refusal : PySem.W.codeIn K cd__law_refusal "_law_refusal" = true)
    (k1__law_refusal : PySem.W.keepIn K (.ref f__law_refusal) = true)
    (a1__law_same : PySem.W.nsIn K mainGlobals "_law_same" = some (some (.ref f__law_same)))
    (l1__law_same : K.lookup f__law_same = some ⟨oc__law_same, od__law_same, .func (PySem.W.fnOf "_law_same" "_law_same" (defArgs s__law_same) (defBody s__law_same) (defScope s__law_same) .none kV__law_same dc__law_same pm__law_same an__law_same cd__law_same ct__law_same), sl__law_same⟩)
    (c1__law_same : PySem.W.codeIn K cd__law_same "_law_same" = true)
    (k1__law_same : PySem.W.keepIn K (.ref f__law_same) = true)
    (a1__law_refused : PySem.W.nsIn K mainGlobals "_law_refused" = some (some (.ref f__law_refused)))
    (l1__law_refused : K.lookup f__law_refused = some ⟨oc__law_refused, od__law_refused, .func (PySem.W.fnOf "_law_refused" "_law_refused" (defArgs s__law_refused) (defBody s__law_refused) (defScope s__law_refused) .none kV__law_refused dc__law_refused pm__law_refused an__law_refused cd__law_refused ct__law_refused), sl__law_refused⟩)
    (c1__law_refused : PySem.W.codeIn K cd__law_refused "_law_refused" = true)
    (k1__law_refused : PySem.W.keepIn K (.ref f__law_refused) = true)
    (a1_law : PySem.W.nsIn K mainGlobals "law" = some (some (.ref f_law)))
    (l1_law : K.lookup f_law = some ⟨oc_law, od_law, .func (PySem.W.fnOf "law" "law" (defArgs s_law) (defBody s_law) (defScope s_law) .none kV_law dc_law pm_law an_law cd_law ct_law), sl_law⟩)
    (c1_law : PySem.W.codeIn K cd_law "law" = true)
    (k1_law : PySem.W.keepIn K (.ref f_law) = true)
    (z_isinstance : PySem.W.nsIn K mainGlobals "isinstance" = some none)
    (z_int : PySem.W.nsIn K mainGlobals "int" = some none)
    (z_bool : PySem.W.nsIn K mainGlobals "bool" = some none)
    (z_str : PySem.W.nsIn K mainGlobals "str" = some none)
    (z_all : PySem.W.nsIn K mainGlobals "all" = some none)
    (z_len : PySem.W.nsIn K mainGlobals "len" = some none)
    (z_abs : PySem.W.nsIn K mainGlobals "abs" = some none)
    (z_sum : PySem.W.nsIn K mainGlobals "sum" = some none)
    (z_range : PySem.W.nsIn K mainGlobals "range" = some none)
    (z_ValueError : PySem.W.nsIn K mainGlobals "ValueError" = some none)
    (z_list : PySem.W.nsIn K mainGlobals "list" = some none) :
    ∃ fd : FuncData, (∀ (s : Shared) (v : Value), BindsTo s fd ⟨[v], []⟩ [("script", v)]) ∧ ∀ base : Heap, K.In base → base.Ns mainGlobals mg → FnOk l.prog w K mg base CX0 7 fa fd ["script"] (sp_law K) := by
  have e := hfa.symm.trans (PySem.W.mg_of X G a1_law)
  cases e
  have F_InvalidNumber_init := fun_mk (st := s_InvalidNumber_init) l1_InvalidNumber_init c1_InvalidNumber_init k1_InvalidNumber_init
  have F_is_whole := fun_mk (st := s_is_whole) l1_is_whole c1_is_whole k1_is_whole
  have F_is_number := fun_mk (st := s_is_number) l1_is_number c1_is_number k1_is_number
  have F_check_number := fun_mk (st := s_check_number) l1_check_number c1_check_number k1_check_number
  have F_is_made_of := fun_mk (st := s_is_made_of) l1_is_made_of c1_is_made_of k1_is_made_of
  have F_is_row := fun_mk (st := s_is_row) l1_is_row c1_is_row k1_is_row
  have F_choose := fun_mk (st := s_choose) l1_choose c1_choose k1_choose
  have F_block_count := fun_mk (st := s_block_count) l1_block_count c1_block_count k1_block_count
  have F_merge_count := fun_mk (st := s_merge_count) l1_merge_count c1_merge_count k1_merge_count
  have F_check_row := fun_mk (st := s_check_row) l1_check_row c1_check_row k1_check_row
  have F_cut_count := fun_mk (st := s_cut_count) l1_cut_count c1_cut_count k1_cut_count
  have F_merges := fun_mk (st := s_merges) l1_merges c1_merges k1_merges
  have F__law_cell := fun_mk (st := s__law_cell) l1__law_cell c1__law_cell k1__law_cell
  have F__law_box := fun_mk (st := s__law_box) l1__law_box c1__law_box k1__law_box
  have F__law_take := fun_mk (st := s__law_take) l1__law_take c1__law_take k1__law_take
  have F__law_row := fun_mk (st := s__law_row) l1__law_row c1__law_row k1__law_row
  have F__law_least := fun_mk (st := s__law_least) l1__law_least c1__law_least k1__law_least
  have F__law_talks := fun_mk (st := s__law_talks) l1__law_talks c1__law_talks k1__law_talks
  have F__law_choose := fun_mk (st := s__law_choose) l1__law_choose c1__law_choose k1__law_choose
  have F__law_formula := fun_mk (st := s__law_formula) l1__law_formula c1__law_formula k1__law_formula
  have F__law_is_number := fun_mk (st := s__law_is_number) l1__law_is_number c1__law_is_number k1__law_is_number
  have F__law_sum := fun_mk (st := s__law_sum) l1__law_sum c1__law_sum k1__law_sum
  have F__law_rows_merged := fun_mk (st := s__law_rows_merged) l1__law_rows_merged c1__law_rows_merged k1__law_rows_merged
  have F__law_any_numbers := fun_mk (st := s__law_any_numbers) l1__law_any_numbers c1__law_any_numbers k1__law_any_numbers
  have F__law_wrong_number := fun_mk (st := s__law_wrong_number) l1__law_wrong_number c1__law_wrong_number k1__law_wrong_number
  have F__law_refusal := fun_mk (st := s__law_refusal) l1__law_refusal c1__law_refusal k1__law_refusal
  have F__law_same := fun_mk (st := s__law_same) l1__law_same c1__law_same k1__law_same
  have F__law_refused := fun_mk (st := s__law_refused) l1__law_refused c1__law_refused k1__law_refused
  have F_law := fun_mk (st := s_law) l1_law c1_law k1_law
  let T : TX K mg := {
    a_InvalidNumber_init := f_InvalidNumber_init
    d_InvalidNumber_init := PySem.W.fnOf "__init__" "InvalidNumber.__init__" (defArgs s_InvalidNumber_init) (defBody s_InvalidNumber_init) (defScope s_InvalidNumber_init) .none kV_InvalidNumber_init dc_InvalidNumber_init pm_InvalidNumber_init an_InvalidNumber_init cd_InvalidNumber_init ct_InvalidNumber_init
    F_InvalidNumber_init := F_InvalidNumber_init
    b_InvalidNumber_init := F_InvalidNumber_init.binds (ps := p_InvalidNumber_init) fun _ _ _ _ _ _ us hl => match us, hl with | [_, _], _ => rfl
    a_is_whole := f_is_whole
    d_is_whole := PySem.W.fnOf "is_whole" "is_whole" (defArgs s_is_whole) (defBody s_is_whole) (defScope s_is_whole) .none kV_is_whole dc_is_whole pm_is_whole an_is_whole cd_is_whole ct_is_whole
    F_is_whole := F_is_whole
    m_is_whole := PySem.W.mg_of X G a1_is_whole
    k_is_whole := k1_is_whole
    b_is_whole := F_is_whole.binds (ps := p_is_whole) fun _ _ _ _ _ _ us hl => match us, hl with | [_], _ => rfl
    a_is_number := f_is_number
    d_is_number := PySem.W.fnOf "is_number" "is_number" (defArgs s_is_number) (defBody s_is_number) (defScope s_is_number) .none kV_is_number dc_is_number pm_is_number an_is_number cd_is_number ct_is_number
    F_is_number := F_is_number
    m_is_number := PySem.W.mg_of X G a1_is_number
    k_is_number := k1_is_number
    b_is_number := F_is_number.binds (ps := p_is_number) fun _ _ _ _ _ _ us hl => match us, hl with | [_, _, _], _ => rfl
    a_check_number := f_check_number
    d_check_number := PySem.W.fnOf "check_number" "check_number" (defArgs s_check_number) (defBody s_check_number) (defScope s_check_number) .none kV_check_number dc_check_number pm_check_number an_check_number cd_check_number ct_check_number
    F_check_number := F_check_number
    m_check_number := PySem.W.mg_of X G a1_check_number
    k_check_number := k1_check_number
    b_check_number := F_check_number.binds (ps := p_check_number) fun _ _ _ _ _ _ us hl => match us, hl with | [_, _, _], _ => rfl
    a_is_made_of := f_is_made_of
    d_is_made_of := PySem.W.fnOf "is_made_of" "is_made_of" (defArgs s_is_made_of) (defBody s_is_made_of) (defScope s_is_made_of) .none kV_is_made_of dc_is_made_of pm_is_made_of an_is_made_of cd_is_made_of ct_is_made_of
    F_is_made_of := F_is_made_of
    m_is_made_of := PySem.W.mg_of X G a1_is_made_of
    k_is_made_of := k1_is_made_of
    b_is_made_of := F_is_made_of.binds (ps := p_is_made_of) fun _ _ _ _ _ _ us hl => match us, hl with | [_, _], _ => rfl
    a_is_row := f_is_row
    d_is_row := PySem.W.fnOf "is_row" "is_row" (defArgs s_is_row) (defBody s_is_row) (defScope s_is_row) .none kV_is_row dc_is_row pm_is_row an_is_row cd_is_row ct_is_row
    F_is_row := F_is_row
    m_is_row := PySem.W.mg_of X G a1_is_row
    k_is_row := k1_is_row
    b_is_row := F_is_row.binds (ps := p_is_row) fun _ _ _ _ _ _ us hl => match us, hl with | [_], _ => rfl
    a_choose := f_choose
    d_choose := PySem.W.fnOf "choose" "choose" (defArgs s_choose) (defBody s_choose) (defScope s_choose) .none kV_choose dc_choose pm_choose an_choose cd_choose ct_choose
    F_choose := F_choose
    m_choose := PySem.W.mg_of X G a1_choose
    k_choose := k1_choose
    b_choose := F_choose.binds (ps := p_choose) fun _ _ _ _ _ _ us hl => match us, hl with | [_, _], _ => rfl
    a_block_count := f_block_count
    d_block_count := PySem.W.fnOf "block_count" "block_count" (defArgs s_block_count) (defBody s_block_count) (defScope s_block_count) .none kV_block_count dc_block_count pm_block_count an_block_count cd_block_count ct_block_count
    F_block_count := F_block_count
    m_block_count := PySem.W.mg_of X G a1_block_count
    k_block_count := k1_block_count
    b_block_count := F_block_count.binds (ps := p_block_count) fun _ _ _ _ _ _ us hl => match us, hl with | [_], _ => rfl
    a_merge_count := f_merge_count
    d_merge_count := PySem.W.fnOf "merge_count" "merge_count" (defArgs s_merge_count) (defBody s_merge_count) (defScope s_merge_count) .none kV_merge_count dc_merge_count pm_merge_count an_merge_count cd_merge_count ct_merge_count
    F_merge_count := F_merge_count
    m_merge_count := PySem.W.mg_of X G a1_merge_count
    k_merge_count := k1_merge_count
    b_merge_count := F_merge_count.binds (ps := p_merge_count) fun _ _ _ _ _ _ us hl => match us, hl with | [_, _, _, _, _], _ => rfl
    a_check_row := f_check_row
    d_check_row := PySem.W.fnOf "check_row" "check_row" (defArgs s_check_row) (defBody s_check_row) (defScope s_check_row) .none kV_check_row dc_check_row pm_check_row an_check_row cd_check_row ct_check_row
    F_check_row := F_check_row
    m_check_row := PySem.W.mg_of X G a1_check_row
    k_check_row := k1_check_row
    b_check_row := F_check_row.binds (ps := p_check_row) fun _ _ _ _ _ _ us hl => match us, hl with | [_], _ => rfl
    a_cut_count := f_cut_count
    d_cut_count := PySem.W.fnOf "cut_count" "cut_count" (defArgs s_cut_count) (defBody s_cut_count) (defScope s_cut_count) .none kV_cut_count dc_cut_count pm_cut_count an_cut_count cd_cut_count ct_cut_count
    F_cut_count := F_cut_count
    m_cut_count := PySem.W.mg_of X G a1_cut_count
    k_cut_count := k1_cut_count
    b_cut_count := F_cut_count.binds (ps := p_cut_count) fun _ _ _ _ _ _ us hl => match us, hl with | [_, _], _ => rfl
    a_merges := f_merges
    d_merges := PySem.W.fnOf "merges" "merges" (defArgs s_merges) (defBody s_merges) (defScope s_merges) .none kV_merges dc_merges pm_merges an_merges cd_merges ct_merges
    F_merges := F_merges
    m_merges := PySem.W.mg_of X G a1_merges
    k_merges := k1_merges
    kb_merges := ⟨fun s us ws _ l1 l2 => match us, l1, ws, l2 with | [_, _, _, _], _, [_], _ => .of_eq rfl, fun r1 r2 => r1.append r2⟩
    a__law_cell := f__law_cell
    d__law_cell := PySem.W.fnOf "_law_cell" "_law_cell" (defArgs s__law_cell) (defBody s__law_cell) (defScope s__law_cell) .none kV__law_cell dc__law_cell pm__law_cell an__law_cell cd__law_cell ct__law_cell
    F__law_cell := F__law_cell
    m__law_cell := PySem.W.mg_of X G a1__law_cell
    k__law_cell := k1__law_cell
    b__law_cell := F__law_cell.binds (ps := p__law_cell) fun _ _ _ _ _ _ us hl => match us, hl with | [_, _], _ => rfl
    a__law_box := f__law_box
    d__law_box := PySem.W.fnOf "_law_box" "_law_box" (defArgs s__law_box) (defBody s__law_box) (defScope s__law_box) .none kV__law_box dc__law_box pm__law_box an__law_box cd__law_box ct__law_box
    F__law_box := F__law_box
    m__law_box := PySem.W.mg_of X G a1__law_box
    k__law_box := k1__law_box
    b__law_box := F__law_box.binds (ps := p__law_box) fun _ _ _ _ _ _ us hl => match us, hl with | [_, _], _ => rfl
    a__law_take := f__law_take
    d__law_take := PySem.W.fnOf "_law_take" "_law_take" (defArgs s__law_take) (defBody s__law_take) (defScope s__law_take) .none kV__law_take dc__law_take pm__law_take an__law_take cd__law_take ct__law_take
    F__law_take := F__law_take
    m__law_take := PySem.W.mg_of X G a1__law_take
    k__law_take := k1__law_take
    b__law_take := F__law_take.binds (ps := p__law_take) fun _ _ _ _ _ _ us hl => match us, hl with | [_, _], _ => rfl
    a__law_row := f__law_row
    d__law_row := PySem.W.fnOf "_law_row" "_law_row" (defArgs s__law_row) (defBody s__law_row) (defScope s__law_row) .none kV__law_row dc__law_row pm__law_row an__law_row cd__law_row ct__law_row
    F__law_row := F__law_row
    m__law_row := PySem.W.mg_of X G a1__law_row
    k__law_row := k1__law_row
    b__law_row := F__law_row.binds (ps := p__law_row) fun _ _ _ _ _ _ us hl => match us, hl with | [_, _, _], _ => rfl
    a__law_least := f__law_least
    d__law_least := PySem.W.fnOf "_law_least" "_law_least" (defArgs s__law_least) (defBody s__law_least) (defScope s__law_least) .none kV__law_least dc__law_least pm__law_least an__law_least cd__law_least ct__law_least
    F__law_least := F__law_least
    m__law_least := PySem.W.mg_of X G a1__law_least
    k__law_least := k1__law_least
    b__law_least := F__law_least.binds (ps := p__law_least) fun _ _ _ _ _ _ us hl => match us, hl with | [_], _ => rfl
    a__law_talks := f__law_talks
    d__law_talks := PySem.W.fnOf "_law_talks" "_law_talks" (defArgs s__law_talks) (defBody s__law_talks) (defScope s__law_talks) .none kV__law_talks dc__law_talks pm__law_talks an__law_talks cd__law_talks ct__law_talks
    F__law_talks := F__law_talks
    m__law_talks := PySem.W.mg_of X G a1__law_talks
    k__law_talks := k1__law_talks
    b__law_talks := F__law_talks.binds (ps := p__law_talks) fun _ _ _ _ _ _ us hl => match us, hl with | [_, _], _ => rfl
    a__law_choose := f__law_choose
    d__law_choose := PySem.W.fnOf "_law_choose" "_law_choose" (defArgs s__law_choose) (defBody s__law_choose) (defScope s__law_choose) .none kV__law_choose dc__law_choose pm__law_choose an__law_choose cd__law_choose ct__law_choose
    F__law_choose := F__law_choose
    m__law_choose := PySem.W.mg_of X G a1__law_choose
    k__law_choose := k1__law_choose
    b__law_choose := F__law_choose.binds (ps := p__law_choose) fun _ _ _ _ _ _ us hl => match us, hl with | [_, _], _ => rfl
    a__law_formula := f__law_formula
    d__law_formula := PySem.W.fnOf "_law_formula" "_law_formula" (defArgs s__law_formula) (defBody s__law_formula) (defScope s__law_formula) .none kV__law_formula dc__law_formula pm__law_formula an__law_formula cd__law_formula ct__law_formula
    F__law_formula := F__law_formula
    m__law_formula := PySem.W.mg_of X G a1__law_formula
    k__law_formula := k1__law_formula
    b__law_formula := F__law_formula.binds (ps := p__law_formula) fun _ _ _ _ _ _ us hl => match us, hl with | [_, _], _ => rfl
    a__law_is_number := f__law_is_number
    d__law_is_number := PySem.W.fnOf "_law_is_number" "_law_is_number" (defArgs s__law_is_number) (defBody s__law_is_number) (defScope s__law_is_number) .none kV__law_is_number dc__law_is_number pm__law_is_number an__law_is_number cd__law_is_number ct__law_is_number
    F__law_is_number := F__law_is_number
    m__law_is_number := PySem.W.mg_of X G a1__law_is_number
    k__law_is_number := k1__law_is_number
    b__law_is_number := F__law_is_number.binds (ps := p__law_is_number) fun _ _ _ _ _ _ us hl => match us, hl with | [_, _], _ => rfl
    a__law_sum := f__law_sum
    d__law_sum := PySem.W.fnOf "_law_sum" "_law_sum" (defArgs s__law_sum) (defBody s__law_sum) (defScope s__law_sum) .none kV__law_sum dc__law_sum pm__law_sum an__law_sum cd__law_sum ct__law_sum
    F__law_sum := F__law_sum
    m__law_sum := PySem.W.mg_of X G a1__law_sum
    k__law_sum := k1__law_sum
    b__law_sum := F__law_sum.binds (ps := p__law_sum) fun _ _ _ _ _ _ us hl => match us, hl with | [_, _, _], _ => rfl
    a__law_rows_merged := f__law_rows_merged
    d__law_rows_merged := PySem.W.fnOf "_law_rows_merged" "_law_rows_merged" (defArgs s__law_rows_merged) (defBody s__law_rows_merged) (defScope s__law_rows_merged) .none kV__law_rows_merged dc__law_rows_merged pm__law_rows_merged an__law_rows_merged cd__law_rows_merged ct__law_rows_merged
    F__law_rows_merged := F__law_rows_merged
    m__law_rows_merged := PySem.W.mg_of X G a1__law_rows_merged
    k__law_rows_merged := k1__law_rows_merged
    b__law_rows_merged := F__law_rows_merged.binds (ps := p__law_rows_merged) fun _ _ _ _ _ _ us hl => match us, hl with | [_, _, _], _ => rfl
    a__law_any_numbers := f__law_any_numbers
    d__law_any_numbers := PySem.W.fnOf "_law_any_numbers" "_law_any_numbers" (defArgs s__law_any_numbers) (defBody s__law_any_numbers) (defScope s__law_any_numbers) .none kV__law_any_numbers dc__law_any_numbers pm__law_any_numbers an__law_any_numbers cd__law_any_numbers ct__law_any_numbers
    F__law_any_numbers := F__law_any_numbers
    m__law_any_numbers := PySem.W.mg_of X G a1__law_any_numbers
    k__law_any_numbers := k1__law_any_numbers
    b__law_any_numbers := F__law_any_numbers.binds (ps := p__law_any_numbers) fun _ _ _ _ _ _ us hl => match us, hl with | [_], _ => rfl
    a__law_wrong_number := f__law_wrong_number
    d__law_wrong_number := PySem.W.fnOf "_law_wrong_number" "_law_wrong_number" (defArgs s__law_wrong_number) (defBody s__law_wrong_number) (defScope s__law_wrong_number) .none kV__law_wrong_number dc__law_wrong_number pm__law_wrong_number an__law_wrong_number cd__law_wrong_number ct__law_wrong_number
    F__law_wrong_number := F__law_wrong_number
    m__law_wrong_number := PySem.W.mg_of X G a1__law_wrong_number
    k__law_wrong_number := k1__law_wrong_number
    b__law_wrong_number := F__law_wrong_number.binds (ps := p__law_wrong_number) fun _ _ _ _ _ _ us hl => match us, hl with | [_, _], _ => rfl
    a__law_refusal := f__law_refusal
    d__law_refusal := PySem.W.fnOf "_law_refusal" "_law_refusal" (defArgs s__law_refusal) (defBody s__law_refusal) (defScope s__law_refusal) .none kV__law_refusal dc__law_refusal pm__law_refusal an__law_refusal cd__law_refusal ct__law_refusal
    F__law_refusal := F__law_refusal
    m__law_refusal := PySem.W.mg_of X G a1__law_refusal
    k__law_refusal := k1__law_refusal
    b__law_refusal := F__law_refusal.binds (ps := p__law_refusal) fun _ _ _ _ _ _ us hl => match us, hl with | [_, _], _ => rfl
    a__law_same := f__law_same
    d__law_same := PySem.W.fnOf "_law_same" "_law_same" (defArgs s__law_same) (defBody s__law_same) (defScope s__law_same) .none kV__law_same dc__law_same pm__law_same an__law_same cd__law_same ct__law_same
    F__law_same := F__law_same
    m__law_same := PySem.W.mg_of X G a1__law_same
    k__law_same := k1__law_same
    b__law_same := F__law_same.binds (ps := p__law_same) fun _ _ _ _ _ _ us hl => match us, hl with | [_, _], _ => rfl
    a__law_refused := f__law_refused
    d__law_refused := PySem.W.fnOf "_law_refused" "_law_refused" (defArgs s__law_refused) (defBody s__law_refused) (defScope s__law_refused) .none kV__law_refused dc__law_refused pm__law_refused an__law_refused cd__law_refused ct__law_refused
    F__law_refused := F__law_refused
    m__law_refused := PySem.W.mg_of X G a1__law_refused
    k__law_refused := k1__law_refused
    b__law_refused := F__law_refused.binds (ps := p__law_refused) fun _ _ _ _ _ _ us hl => match us, hl with | [_, _], _ => rfl
    m_isinstance := PySem.W.mg_none_of X G z_isinstance
    m_int := PySem.W.mg_none_of X G z_int
    m_bool := PySem.W.mg_none_of X G z_bool
    m_str := PySem.W.mg_none_of X G z_str
    m_all := PySem.W.mg_none_of X G z_all
    m_len := PySem.W.mg_none_of X G z_len
    m_abs := PySem.W.mg_none_of X G z_abs
    m_sum := PySem.W.mg_none_of X G z_sum
    m_range := PySem.W.mg_none_of X G z_range
    m_ValueError := PySem.W.mg_none_of X G z_ValueError
    m_list := PySem.W.mg_none_of X G z_list
    a_InvalidNumber := C_InvalidNumber
    m_InvalidNumber := PySem.W.mg_of X G aC_InvalidNumber
    o_InvalidNumber := ⟨⟨nm_E, q_E, N_E, bs_E, _, sn_E, sub_E, ab_E, col_E, dd_E, m0_E, m1_E, m2_E, m3_E, m5_E, xL_InvalidNumber, by rfl⟩, sa_E, eC_E, tC_E, kC_E⟩
    i_InvalidNumber := a1_InvalidNumber_init
    t_InvalidNumber := t1_InvalidNumber_init
    n_InvalidNumber := nb_E
    x_InvalidNumber := ⟨ga_E, gg_E, eC_E, hC_E⟩
    e_InvalidNumber := ⟨ga_E, gg_E, eC_E, hC_E, ha_E, hn_E, ht_E, hm_E⟩
    q_InvalidNumber := q0_E
    q_ValueError := qV_E
    a_CacheError := C_CacheError
    m_CacheError := PySem.W.mg_of X G aC_CacheError
    x_CacheError := xm_E
    m_comb := PySem.W.mg_of X G aC_comb
    a_InvalidRow := C_InvalidRow
    m_InvalidRow := PySem.W.mg_of X G aC_InvalidRow
    q_InvalidRow := qC_InvalidRow
    a_InvalidFlags := C_InvalidFlags
    m_InvalidFlags := PySem.W.mg_of X G aC_InvalidFlags
    q_InvalidFlags := qC_InvalidFlags
    a_InvalidLine := C_InvalidLine
    m_InvalidLine := PySem.W.mg_of X G aC_InvalidLine
    q_InvalidLine := qC_InvalidLine
    a_InvalidSlot := C_InvalidSlot
    m_InvalidSlot := PySem.W.mg_of X G aC_InvalidSlot
    q_InvalidSlot := qC_InvalidSlot
    a_InvalidText := C_InvalidText
    m_InvalidText := PySem.W.mg_of X G aC_InvalidText
    q_InvalidText := qC_InvalidText
    a_Refused := C_Refused
    m_Refused := PySem.W.mg_of X G aC_Refused
    q_Refused := qC_Refused
    a_TooMany := C_TooMany
    m_TooMany := PySem.W.mg_of X G aC_TooMany
    q_TooMany := qC_TooMany }
  exact ⟨PySem.W.fnOf "law" "law" (defArgs s_law) (defBody s_law) (defScope s_law) .none kV_law dc_law pm_law an_law cd_law ct_law, fun s v => .of_eq rfl, fun base _ _ => ok_law T F_law⟩
end K11
open PySem PySem.W PyProof.Rows
set_option maxHeartbeats 0 in
theorem PySem.Challenge.cw_lastside_k11_merges_holds : PySem.Challenge.rw_lastside_k11_merges.Holds := by
  w_on; o_law; k_head; (case hw => w_witness2)
  k_fill
  refine L2.walk_of (l := PySem.Challenge.rw_lastside_k11_merges) (n := 63) (k := 7) (x := "script") (CX := fun _ => L2.CX0) (sp := fun w => K11.sp_law _) rfl (by decide) rfl ⟨rfl, by decide, by decide⟩ (fun w h Y => PySem.W.kIn_of Y) ?F (fun _ _ a ns hl hb hS => ⟨a, ns, rfl, hS, hl, fun _ => rfl⟩) (fun _ _ _ _ _ h => h)
  case F =>
    intro w mg fa h KX G hmg
    refine' K11.all_mk KX G hmg ?aC_InvalidNumber ?xL_InvalidNumber ?sa_E ?ga_E ?gg_E ?nb_E ?kC_E ?eC_E ?tC_E ?hC_E ?ha_E ?hn_E ?ht_E ?hm_E ?aC_CacheError ?xm_E ?q0_E ?qV_E ?aC_comb ?aC_InvalidRow ?qC_InvalidRow ?aC_InvalidFlags ?qC_InvalidFlags ?aC_InvalidLine ?qC_InvalidLine ?aC_InvalidSlot ?qC_InvalidSlot ?aC_InvalidText ?qC_InvalidText ?aC_Refused ?qC_Refused ?aC_TooMany ?qC_TooMany ?a1_InvalidNumber_init ?t1_InvalidNumber_init ?l1_InvalidNumber_init ?c1_InvalidNumber_init ?k1_InvalidNumber_init ?a1_is_whole ?l1_is_whole ?c1_is_whole ?k1_is_whole ?a1_is_number ?l1_is_number ?c1_is_number ?k1_is_number ?a1_check_number ?l1_check_number ?c1_check_number ?k1_check_number ?a1_is_made_of ?l1_is_made_of ?c1_is_made_of ?k1_is_made_of ?a1_is_row ?l1_is_row ?c1_is_row ?k1_is_row ?a1_choose ?l1_choose ?c1_choose ?k1_choose ?a1_block_count ?l1_block_count ?c1_block_count ?k1_block_count ?a1_merge_count ?l1_merge_count ?c1_merge_count ?k1_merge_count ?a1_check_row ?l1_check_row ?c1_check_row ?k1_check_row ?a1_cut_count ?l1_cut_count ?c1_cut_count ?k1_cut_count ?a1_merges ?l1_merges ?c1_merges ?k1_merges ?a1__law_cell ?l1__law_cell ?c1__law_cell ?k1__law_cell ?a1__law_box ?l1__law_box ?c1__law_box ?k1__law_box ?a1__law_take ?l1__law_take ?c1__law_take ?k1__law_take ?a1__law_row ?l1__law_row ?c1__law_row ?k1__law_row ?a1__law_least ?l1__law_least ?c1__law_least ?k1__law_least ?a1__law_talks ?l1__law_talks ?c1__law_talks ?k1__law_talks ?a1__law_choose ?l1__law_choose ?c1__law_choose ?k1__law_choose ?a1__law_formula ?l1__law_formula ?c1__law_formula ?k1__law_formula ?a1__law_is_number ?l1__law_is_number ?c1__law_is_number ?k1__law_is_number ?a1__law_sum ?l1__law_sum ?c1__law_sum ?k1__law_sum ?a1__law_rows_merged ?l1__law_rows_merged ?c1__law_rows_merged ?k1__law_rows_merged ?a1__law_any_numbers ?l1__law_any_numbers ?c1__law_any_numbers ?k1__law_any_numbers ?a1__law_wrong_number ?l1__law_wrong_number ?c1__law_wrong_number ?k1__law_wrong_number ?a1__law_refusal ?l1__law_refusal ?c1__law_refusal ?k1__law_refusal ?a1__law_same ?l1__law_same ?c1__law_same ?k1__law_same ?a1__law_refused ?l1__law_refused ?c1__law_refused ?k1__law_refused ?a1_law ?l1_law ?c1_law ?k1_law ?z_isinstance ?z_int ?z_bool ?z_str ?z_all ?z_len ?z_abs ?z_sum ?z_range ?z_ValueError ?z_list
    (case aC_InvalidNumber => first | k_is | kit_is | rfl)
    (case xL_InvalidNumber => first | k_is | kit_is | rfl)
    (case sa_E => first | k_is | kit_is | rfl)
    (case ga_E => first | k_is | kit_is | rfl)
    (case gg_E => first | k_is | kit_is | rfl)
    (case nb_E => first | k_is | kit_is | rfl)
    (case kC_E => first | k_is | kit_is | rfl)
    (case eC_E => first | k_is | kit_is | rfl)
    (case tC_E => first | k_is | kit_is | rfl)
    (case hC_E => first | k_is | kit_is | rfl)
    (case ha_E => first | k_is | kit_is | rfl)
    (case hn_E => first | k_is | kit_is | rfl)
    (case ht_E => first | k_is | kit_is | rfl)
    (case hm_E => first | k_is | kit_is | rfl)
    (case aC_CacheError => first | k_is | kit_is | rfl)
    (case xm_E => first | k_is | kit_is | rfl)
    (case q0_E => first | k_is | kit_is | rfl)
    (case qV_E => first | k_is | kit_is | rfl)
    (case aC_comb => first | k_is | kit_is | rfl)
    (case aC_InvalidRow => first | k_is | kit_is | rfl)
    (case qC_InvalidRow => first | k_is | kit_is | rfl)
    (case aC_InvalidFlags => first | k_is | kit_is | rfl)
    (case qC_InvalidFlags => first | k_is | kit_is | rfl)
    (case aC_InvalidLine => first | k_is | kit_is | rfl)
    (case qC_InvalidLine => first | k_is | kit_is | rfl)
    (case aC_InvalidSlot => first | k_is | kit_is | rfl)
    (case qC_InvalidSlot => first | k_is | kit_is | rfl)
    (case aC_InvalidText => first | k_is | kit_is | rfl)
    (case qC_InvalidText => first | k_is | kit_is | rfl)
    (case aC_Refused => first | k_is | kit_is | rfl)
    (case qC_Refused => first | k_is | kit_is | rfl)
    (case aC_TooMany => first | k_is | kit_is | rfl)
    (case qC_TooMany => first | k_is | kit_is | rfl)
    (case a1_InvalidNumber_init => first | k_is | kit_is | rfl)
    (case t1_InvalidNumber_init => first | k_is | kit_is | rfl)
    (case l1_InvalidNumber_init => first | k_is | kit_is | rfl)
    (case c1_InvalidNumber_init => first | k_is | kit_is | rfl)
    (case k1_InvalidNumber_init => first | k_is | kit_is | rfl)
    (case a1_is_whole => first | k_is | kit_is | rfl)
    (case l1_is_whole => first | k_is | kit_is | rfl)
    (case c1_is_whole => first | k_is | kit_is | rfl)
    (case k1_is_whole => first | k_is | kit_is | rfl)
    (case a1_is_number => first | k_is | kit_is | rfl)
    (case l1_is_number => first | k_is | kit_is | rfl)
    (case c1_is_number => first | k_is | kit_is | rfl)
    (case k1_is_number => first | k_is | kit_is | rfl)
    (case a1_check_number => first | k_is | kit_is | rfl)
    (case l1_check_number => first | k_is | kit_is | rfl)
    (case c1_check_number => first | k_is | kit_is | rfl)
    (case k1_check_number => first | k_is | kit_is | rfl)
    (case a1_is_made_of => first | k_is | kit_is | rfl)
    (case l1_is_made_of => first | k_is | kit_is | rfl)
    (case c1_is_made_of => first | k_is | kit_is | rfl)
    (case k1_is_made_of => first | k_is | kit_is | rfl)
    (case a1_is_row => first | k_is | kit_is | rfl)
    (case l1_is_row => first | k_is | kit_is | rfl)
    (case c1_is_row => first | k_is | kit_is | rfl)
    (case k1_is_row => first | k_is | kit_is | rfl)
    (case a1_choose => first | k_is | kit_is | rfl)
    (case l1_choose => first | k_is | kit_is | rfl)
    (case c1_choose => first | k_is | kit_is | rfl)
    (case k1_choose => first | k_is | kit_is | rfl)
    (case a1_block_count => first | k_is | kit_is | rfl)
    (case l1_block_count => first | k_is | kit_is | rfl)
    (case c1_block_count => first | k_is | kit_is | rfl)
    (case k1_block_count => first | k_is | kit_is | rfl)
    (case a1_merge_count => first | k_is | kit_is | rfl)
    (case l1_merge_count => first | k_is | kit_is | rfl)
    (case c1_merge_count => first | k_is | kit_is | rfl)
    (case k1_merge_count => first | k_is | kit_is | rfl)
    (case a1_check_row => first | k_is | kit_is | rfl)
    (case l1_check_row => first | k_is | kit_is | rfl)
    (case c1_check_row => first | k_is | kit_is | rfl)
    (case k1_check_row => first | k_is | kit_is | rfl)
    (case a1_cut_count => first | k_is | kit_is | rfl)
    (case l1_cut_count => first | k_is | kit_is | rfl)
    (case c1_cut_count => first | k_is | kit_is | rfl)
    (case k1_cut_count => first | k_is | kit_is | rfl)
    (case a1_merges => first | k_is | kit_is | rfl)
    (case l1_merges => first | k_is | kit_is | rfl)
    (case c1_merges => first | k_is | kit_is | rfl)
    (case k1_merges => first | k_is | kit_is | rfl)
    (case a1__law_cell => first | k_is | kit_is | rfl)
    (case l1__law_cell => first | k_is | kit_is | rfl)
    (case c1__law_cell => first | k_is | kit_is | rfl)
    (case k1__law_cell => first | k_is | kit_is | rfl)
    (case a1__law_box => first | k_is | kit_is | rfl)
    (case l1__law_box => first | k_is | kit_is | rfl)
    (case c1__law_box => first | k_is | kit_is | rfl)
    (case k1__law_box => first | k_is | kit_is | rfl)
    (case a1__law_take => first | k_is | kit_is | rfl)
    (case l1__law_take => first | k_is | kit_is | rfl)
    (case c1__law_take => first | k_is | kit_is | rfl)
    (case k1__law_take => first | k_is | kit_is | rfl)
    (case a1__law_row => first | k_is | kit_is | rfl)
    (case l1__law_row => first | k_is | kit_is | rfl)
    (case c1__law_row => first | k_is | kit_is | rfl)
    (case k1__law_row => first | k_is | kit_is | rfl)
    (case a1__law_least => first | k_is | kit_is | rfl)
    (case l1__law_least => first | k_is | kit_is | rfl)
    (case c1__law_least => first | k_is | kit_is | rfl)
    (case k1__law_least => first | k_is | kit_is | rfl)
    (case a1__law_talks => first | k_is | kit_is | rfl)
    (case l1__law_talks => first | k_is | kit_is | rfl)
    (case c1__law_talks => first | k_is | kit_is | rfl)
    (case k1__law_talks => first | k_is | kit_is | rfl)
    (case a1__law_choose => first | k_is | kit_is | rfl)
    (case l1__law_choose => first | k_is | kit_is | rfl)
    (case c1__law_choose => first | k_is | kit_is | rfl)
    (case k1__law_choose => first | k_is | kit_is | rfl)
    (case a1__law_formula => first | k_is | kit_is | rfl)
    (case l1__law_formula => first | k_is | kit_is | rfl)
    (case c1__law_formula => first | k_is | kit_is | rfl)
    (case k1__law_formula => first | k_is | kit_is | rfl)
    (case a1__law_is_number => first | k_is | kit_is | rfl)
    (case l1__law_is_number => first | k_is | kit_is | rfl)
    (case c1__law_is_number => first | k_is | kit_is | rfl)
    (case k1__law_is_number => first | k_is | kit_is | rfl)
    (case a1__law_sum => first | k_is | kit_is | rfl)
    (case l1__law_sum => first | k_is | kit_is | rfl)
    (case c1__law_sum => first | k_is | kit_is | rfl)
    (case k1__law_sum => first | k_is | kit_is | rfl)
    (case a1__law_rows_merged => first | k_is | kit_is | rfl)
    (case l1__law_rows_merged => first | k_is | kit_is | rfl)
    (case c1__law_rows_merged => first | k_is | kit_is | rfl)
    (case k1__law_rows_merged => first | k_is | kit_is | rfl)
    (case a1__law_any_numbers => first | k_is | kit_is | rfl)
    (case l1__law_any_numbers => first | k_is | kit_is | rfl)
    (case c1__law_any_numbers => first | k_is | kit_is | rfl)
    (case k1__law_any_numbers => first | k_is | kit_is | rfl)
    (case a1__law_wrong_number => first | k_is | kit_is | rfl)
    (case l1__law_wrong_number => first | k_is | kit_is | rfl)
    (case c1__law_wrong_number => first | k_is | kit_is | rfl)
    (case k1__law_wrong_number => first | k_is | kit_is | rfl)
    (case a1__law_refusal => first | k_is | kit_is | rfl)
    (case l1__law_refusal => first | k_is | kit_is | rfl)
    (case c1__law_refusal => first | k_is | kit_is | rfl)
    (case k1__law_refusal => first | k_is | kit_is | rfl)
    (case a1__law_same => first | k_is | kit_is | rfl)
    (case l1__law_same => first | k_is | kit_is | rfl)
    (case c1__law_same => first | k_is | kit_is | rfl)
    (case k1__law_same => first | k_is | kit_is | rfl)
    (case a1__law_refused => first | k_is | kit_is | rfl)
    (case l1__law_refused => first | k_is | kit_is | rfl)
    (case c1__law_refused => first | k_is | kit_is | rfl)
    (case k1__law_refused => first | k_is | kit_is | rfl)
    (case a1_law => first | k_is | kit_is | rfl)
    (case l1_law => first | k_is | kit_is | rfl)
    (case c1_law => first | k_is | kit_is | rfl)
    (case k1_law => first | k_is | kit_is | rfl)
    (case z_isinstance => first | k_is | kit_is | rfl)
    (case z_int => first | k_is | kit_is | rfl)
    (case z_bool => first | k_is | kit_is | rfl)
    (case z_str => first | k_is | kit_is | rfl)
    (case z_all => first | k_is | kit_is | rfl)
    (case z_len => first | k_is | kit_is | rfl)
    (case z_abs => first | k_is | kit_is | rfl)
    (case z_sum => first | k_is | kit_is | rfl)
    (case z_range => first | k_is | kit_is | rfl)
    (case z_ValueError => first | k_is | kit_is | rfl)
    (case z_list => first | k_is | kit_is | rfl)


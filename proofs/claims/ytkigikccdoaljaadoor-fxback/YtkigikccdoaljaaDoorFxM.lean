/- Texts of numbers in units: the plain mathematics. -/
import Derived.Lib.ItoaMem
namespace Go.Proofs.YtkigikccdoaljaaDoor

/-- A string of bytes. -/
def bs (l : List UInt8) : ByteArray := ⟨l.toArray⟩
theorem bs_append (x y : List UInt8) : bs x ++ bs y = bs (x ++ y) := by
  unfold bs
  apply ByteArray.ext
  simp [ByteArray.data_append]
theorem bs_size (x : List UInt8) : (bs x).size = x.length := by simp [bs, ByteArray.size]
theorem bs_inj {x y : List UInt8} (h : bs x = bs y) : x = y := by
  have := congrArg (fun b : ByteArray => b.data.toList) h
  simpa [bs] using this

/-- The digits behind the point, at most so many. -/
def fr : Nat → Nat → List UInt8
  | 0, _ => []
  | k + 1, r => if r = 0 then [] else Lib.decDigits (r * 10 / 16777216) ++ fr k (r * 10 % 16777216)
theorem fr_zero (k : Nat) : fr k 0 = [] := by cases k <;> simp [fr]

/-- What is told so far: t; k digits stand behind base signs; r is left. -/
structure Tx (goal t : List UInt8) (base k r : Nat) : Prop where
  told : t ++ fr (24 - k) r = goal
  small : r < 16777216
  even : 2 ^ k ∣ r
  len : t.length = base + k
  few : k ≤ 24
theorem Tx.start (pre : List UInt8) (r : Nat) (h : r < 16777216) : Tx (pre ++ fr 24 r) pre pre.length 0 r :=
  ⟨rfl, h, ⟨r, by omega⟩, rfl, by omega⟩
theorem Tx.done {goal t : List UInt8} {base k r : Nat} (h : Tx goal t base k r) (hr : r = 0) : t = goal := by
  have := h.told
  rw [hr, fr_zero, List.append_nil] at this
  exact this
theorem Tx.lt {goal t : List UInt8} {base k r : Nat} (h : Tx goal t base k r) (hr : r ≠ 0) : k < 24 := by
  rcases Nat.lt_or_ge k 24 with l | l
  · exact l
  · obtain rfl : k = 24 := by have := h.few; omega
    have := Nat.le_of_dvd (by omega) h.even
    have := h.small
    omega
theorem dig_len {r : Nat} (h : r < 16777216) : (Lib.decDigits (r * 10 / 16777216)).length = 1 := by
  rw [Lib.decDigits_one (by omega)]; rfl
theorem Tx.step {goal t : List UInt8} {base k r : Nat} (h : Tx goal t base k r) (hr : r ≠ 0) : Tx goal (t ++ Lib.decDigits (r * 10 / 16777216)) base (k + 1) (r * 10 % 16777216) := by
  have hk := h.lt hr
  refine ⟨?_, Nat.mod_lt _ (by decide), ?_, ?_, by omega⟩
  · have := h.told
    rw [show 24 - k = (24 - (k + 1)) + 1 by omega, fr, if_neg hr] at this
    rw [List.append_assoc]
    exact this
  · obtain ⟨m, hm⟩ := h.even
    have h2 : 2 ^ (k + 1) ∣ r * 10 := ⟨5 * m, by rw [hm, Nat.pow_succ]; rw [Nat.mul_assoc, Nat.mul_assoc, Nat.mul_comm m 10, ← Nat.mul_assoc 2 5 m]⟩
    have h3 : 2 ^ (k + 1) ∣ 16777216 := by
      have : (2 : Nat) ^ (k + 1) ∣ 2 ^ 24 := Nat.pow_dvd_pow 2 (by omega)
      simpa using this
    exact (Nat.dvd_mod_iff h3).2 h2
  · rw [List.length_append, h.len, dig_len h.small]; omega

/-- What is less than one: a point and digits, or nothing. -/
def ptD (r : Nat) : List UInt8 := if r = 0 then [] else [46] ++ fr 24 r
/-- What a number of units that is not below 0 stands for. -/
def numD (n : Nat) : List UInt8 := Lib.decDigits (n / 16777216) ++ ptD (n % 16777216)
/-- P2.2: what any number of units stands for. -/
def txD (n : Int) : List UInt8 := if n < 0 then [45] ++ numD (-n).toNat else numD n.toNat
theorem dec_len : ∀ (k n : Nat), n < 10 ^ (k + 1) → (Lib.decDigits n).length ≤ k + 1
  | 0, n, h => by rw [Lib.decDigits_one (by omega)]; simp
  | k + 1, n, h => by
    rw [Lib.decDigits]
    split
    · simp
    · have := dec_len k (n / 10) (by rw [Nat.pow_succ] at h; omega)
      simp; omega
theorem fr_len : ∀ (k r : Nat), r < 16777216 → (fr k r).length ≤ k
  | 0, r, _ => by simp [fr]
  | k + 1, r, h => by
    rw [fr]
    split
    · simp
    · have := fr_len k (r * 10 % 16777216) (Nat.mod_lt _ (by decide))
      rw [List.length_append, dig_len h]; omega
theorem ptD_len (r : Nat) (h : r < 16777216) : (ptD r).length ≤ 25 := by
  unfold ptD
  split
  · simp
  · have := fr_len 24 r h
    simp; omega
theorem numD_len (n : Nat) (h : n ≤ 1125899906842624) : (numD n).length ≤ 40 := by
  unfold numD
  have h1 := dec_len 8 (n / 16777216) (by omega)
  have h2 := ptD_len (n % 16777216) (Nat.mod_lt _ (by decide))
  simp; omega
end Go.Proofs.YtkigikccdoaljaaDoor

/- Contracts of fx.Right, fx.told, and of the document's Right and Told (layer 2). -/
import Derived.Test.YtljmggemdkfbiaaGreatMulDiv
import Derived.Test.YtljmggemdkfbiaaGreatRoot
import Derived.Test.YtljmggemdkfbiaaGreatTimes
namespace Go.Proofs.YtljmggemdkfbiaaGreat
open Go.RowKit
set_option linter.unusedSimpArgs false
set_option linter.unusedVariables false

/-- May the number of units be (P2.1)? -/
def frB (n : Int) : Bool := decide (-1125899906842624 ≤ n) && decide (n ≤ 1125899906842624)
theorem frB_iff {n : Int} : frB n = true ↔ -1125899906842624 ≤ n ∧ n ≤ 1125899906842624 := by simp [frB]
theorem frB_eq {n : Int} (h : -1125899906842624 ≤ n ∧ n ≤ 1125899906842624) : frB n = true := frB_iff.2 h
theorem frB_right {n : Int} (h : frB n = true) : rightB n = true := by have := frB_iff.1 h; exact rightB_eq (by omega)
/-- A number, where it is told. -/
def toN (x : Int) (ok : Bool) : Int := if ok then x else 0
theorem toN_t (x : Int) : toN x true = x := rfl
theorem toN_f (x : Int) : toN x false = 0 := rfl
theorem toN_bd (x : Int) (ok : Bool) (h : ok = true → frB x = true) : -1125899906842624 ≤ toN x ok ∧ toN x ok ≤ 1125899906842624 := by
  cases ok
  · rw [toN_f]; omega
  · rw [toN_t]; exact frB_iff.1 (h rfl)

theorem fright_any (n : Int) (w : World) :
    Calls Tryz.prog 63 #[.int .i64 n] w fun e w' => e = .returned (.bool (frB n)) ∧ w' = w := by
  unfold frB
  by_cases h : -1125899906842624 ≤ n
  · by_cases h2 : n ≤ 1125899906842624
    · go_enter Tryz.func63, Tryz.ntmps63
      go_wp2
      go_ret
      exact ⟨by simp [h, h2], rfl⟩
    · go_enter Tryz.func63, Tryz.ntmps63
      go_wp2
      go_ret
      exact ⟨by simp [h, h2], rfl⟩
  · go_enter Tryz.func63, Tryz.ntmps63
    go_wp2
    go_ret
    exact ⟨by simp; omega, rfl⟩

/-- What a number came of: all of it may be. -/
def allB (xs : List Int) : Bool := xs.all frB
theorem allB_take (xs : List Int) (k : Nat) (h : k < xs.length) (ht : allB (xs.take k) = true) : allB (xs.take (k + 1)) = frB (xs.getD k 0) := by
  rw [List.take_succ_eq_append_getElem h]
  unfold allB at ht ⊢
  rw [List.all_append, ht]
  simp [List.getD_eq_getElem?_getD, h]
theorem allB_false (xs : List Int) (k : Nat) (h : k < xs.length) (hf : frB (xs.getD k 0) = false) : allB xs = false := by
  unfold allB
  rw [Bool.eq_false_iff, ne_eq, List.all_eq_true]
  intro hall
  have := hall (xs[k]) (List.getElem_mem h)
  rw [List.getD_eq_getElem?_getD, List.getElem?_eq_getElem h] at hf
  simp [this] at hf

theorem told_no (n : Int) (is : Bool) (h : (is && frB n) = false) (v : Value) (w : World) :
    Calls Tryz.prog 125 #[.int .i64 n, .bool is, v] w fun e w' => e = .returned (.tuple #[.int .i64 0, .bool false]) ∧ w' = w := by
  cases is
  · clear h
    go_enter Tryz.func125, Tryz.ntmps125
    go_wp2_with (go_at_call 63; refine (fright_any _ _).mono ?_; rintro e w' ⟨rfl, rfl⟩)
    go_ret2
    exact ⟨rfl, rfl⟩
  · have hf : frB n = false := by simpa using h
    clear h
    go_enter Tryz.func125, Tryz.ntmps125
    go_wp2_with (go_at_call 63; refine (fright_any _ _).mono ?_; rintro e w' ⟨rfl, rfl⟩)
    go_ret2
    exact ⟨rfl, rfl⟩

theorem told_nil (n : Int) (is : Bool) (w : World) :
    Calls Tryz.prog 125 #[.int .i64 n, .bool is, .slice none 0 0] w fun e w' => e = .returned (.tuple #[.int .i64 (toN n (is && frB n)), .bool (is && frB n)]) ∧ w' = w := by
  cases h : (is && frB n)
  · exact told_no n is h _ w
  · rw [Bool.and_eq_true] at h
    obtain ⟨rfl, hf⟩ := h
    go_enter Tryz.func125, Tryz.ntmps125
    go_wp2_with (go_at_call 63; refine (fright_any _ _).mono ?_; rintro e w' ⟨rfl, rfl⟩)
    go_loop [19] (fun i => i = .int .i64 0) (fun i => 0)
    case atStart => rfl
    case round =>
      subst hrel
      go_wp2
      go_ret2
      exact ⟨rfl, rfl⟩

theorem told_any (n : Int) (is : Bool) (b o : Nat) (xs : List Int) (w : World) (hl : xs.length ≤ 8)
    (hc : ∀ k, k < xs.length → w.cell? ⟨b, o + k, none⟩ = some (.int .i64 (xs.getD k 0))) :
    Calls Tryz.prog 125 #[.int .i64 n, .bool is, .slice (some ⟨b, o, none⟩) xs.length xs.length] w fun e w' =>
      e = .returned (.tuple #[.int .i64 (toN n (is && frB n && allB xs)), .bool (is && frB n && allB xs)]) ∧ w' = w := by
  cases h : (is && frB n)
  · exact told_no n is h _ w
  · rw [Bool.and_eq_true] at h
    obtain ⟨rfl, hf⟩ := h
    go_enter Tryz.func125, Tryz.ntmps125
    go_wp2_with (go_at_call 63; refine (fright_any _ _).mono ?_; rintro e w' ⟨rfl, rfl⟩)
    go_loop [19] (fun i => ∃ k : Nat, k ≤ xs.length ∧ i = .int .i64 k ∧ allB (xs.take k) = true) (fun i => xs.length - (intOf i).toNat)
    case atStart => exact ⟨0, by omega, rfl, rfl⟩
    case round =>
      obtain ⟨k, hk, rfl, ha⟩ := hrel
      by_cases hlt : k < xs.length
      · have hck := hc k hlt
        have hs := allB_take xs k hlt ha
        have hno := allB_false xs k hlt
        generalize xs.getD k 0 = x at *
        have HS := hideP hs
        have HN := hideP hno
        clear hs hno ha hc
        cases hx : frB x
        · go_wp2_with (go_at_call 63; refine (fright_any _ _).mono ?_; rintro e w' ⟨rfl, rfl⟩)
          go_ret2
          exact ⟨by rw [HN.out hx]; rfl, rfl⟩
        · go_wp2_with (go_at_call 63; refine (fright_any _ _).mono ?_; rintro e w' ⟨rfl, rfl⟩)
          go_round
          case rel => exact ⟨k + 1, by omega, by go_num, by rw [HS.out]; exact hx⟩
          case measure => simp [intOf]; omega
      · have HA := hideP ha
        clear ha hc
        go_wp2
        go_ret2
        have e : xs.take k = xs := List.take_of_length_le (by omega)
        refine ⟨?_, rfl⟩
        have := HA.out
        rw [e] at this
        rw [this]; rfl
end Go.Proofs.YtljmggemdkfbiaaGreat

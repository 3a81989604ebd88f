/- SumOf: the sum of any bytes is the document's. -/
import Derived.Test.YtljmggemdkfbiaaDoorSu2
namespace Go.Proofs.YtljmggemdkfbiaaDoor
open Go.RowKit
set_option linter.unusedSimpArgs false
set_option linter.unusedVariables false

/-- A row of bytes as it came in. -/
def ByIn (w : World) (v : Value) (xs : List Nat) : Prop := Rq 1 cB w v xs ∧ (∀ x ∈ xs, x < 256) ∧ xs.length ≤ 9223372036854775807
theorem rq_val {w : World} {v : Value} {xs : List Nat} (h : Rq 1 cB w v xs) : ∃ p cap, v = .slice p xs.length cap := by
  rcases h with ⟨p, cap, rfl, rfl, _⟩ | ⟨b, o, cap, rfl, _⟩
  · exact ⟨p, cap, rfl⟩
  · exact ⟨_, cap, rfl⟩
set_option maxRecDepth 100000 in
set_option maxHeartbeats 1000000 in
theorem walk_SumOf (v : Value) (xs : List Nat) (w : World) (h : ByIn w v xs) (ht : HalfTab w) :
    Calls Tryd.prog 3 #[v] w fun e w' => e = .returned (.bool true) ∧ Bl w w' := by
  obtain ⟨hr, hx, hl⟩ := h
  obtain ⟨p, cap, rfl⟩ := rq_val hr
  have AW := hideP (awake11_any w ht)
  have A1 := hideP (fun hl => of_any _ _ w hr hx hl ht)
  have A2 := hideP (fun hl => refOf_any _ _ w hr hx hl)
  clear hr hx ht
  obtain ⟨n, hn⟩ : ∃ n, n = xs.length := ⟨_, rfl⟩
  rw [← hn] at A1 A2 hl ⊢
  clear hn
  by_cases hb : 3000 < n
  · clear A1 A2
    go_enter Tryd.func3, Tryd.ntmps3
    go_wp2_with fail
    refine AW.out.mono ?_
    rintro e w1 ⟨rfl, h1⟩
    go_wp2
    go_ret
    exact ⟨rfl, h1⟩
  · have B1 := hideP (A1.out (by omega))
    have B2 := hideP (A2.out (by omega))
    clear A1 A2
    generalize sumOf xs = s at *
    go_enter Tryd.func3, Tryd.ntmps3
    go_wp2_with fail
    refine B1.out.mono ?_
    rintro e w1 ⟨rfl, rfl⟩
    go_wp2_with fail
    refine B2.out.mono ?_
    rintro e w1 ⟨rfl, rfl⟩
    go_wp2_with fail
    refine AW.out.mono ?_
    rintro e w1 ⟨rfl, h1⟩
    go_wp2
    go_ret
    exact ⟨rfl, h1⟩
end Go.Proofs.YtljmggemdkfbiaaDoor

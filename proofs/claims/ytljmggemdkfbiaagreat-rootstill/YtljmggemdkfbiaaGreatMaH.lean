/- What layer 6's laws ask with: Few, the document's Right and Mul. -/
import Derived.Test.YtljmggemdkfbiaaGreatMa0
import Derived.Test.YtljmggemdkfbiaaGreatVeJ
import Derived.Test.YtljmggemdkfbiaaGreatVeAI
namespace Go.Proofs.YtljmggemdkfbiaaGreat
open Go.RowKit
set_option linter.unusedSimpArgs false
set_option linter.unusedVariables false

/-- What Few tells. -/
def FewQ (ns : List Int) (w : World) (e : Ending) (w' : World) : Prop := ∃ b, e = .returned (.bool b) ∧ (b = true → ns.length ≤ 256 ∧ Sml 100 ns) ∧ w' = w
theorem fewQ {ns : List Int} {w : World} (b : Bool) (h : b = true → ns.length ≤ 256 ∧ Sml 100 ns) : FewQ ns w (.returned (.bool b)) w := ⟨b, rfl, h, rfl⟩
set_option maxHeartbeats 1000000 in
theorem few6_any (v : Value) (ns : List Int) (w : World) (h : Rq 1 cI w v ns) :
    Calls Tryz.prog 29 #[v] w (FewQ ns w) := by
  rcases h with ⟨p, cap, rfl, rfl, hpn⟩ | ⟨b, o, cap, rfl, hc, hb, hx⟩
  · go_enter Tryz.func29, Tryz.ntmps29
    go_wp2_with fail
    go_loopw [3] (fun i wr => i = .int .i64 0 ∧ wr = w) (fun _ _ => 0)
    case atStart => exact ⟨rfl, rfl⟩
    case round =>
      obtain ⟨rfl, rfl⟩ := hrel
      go_wp2
      go_ret
      exact fewQ _ (fun _ => ⟨by simp, fun x hx => by simp at hx⟩)
  · have HX := hideP hx
    clear hx
    go_enter Tryz.func29, Tryz.ntmps29
    go_wp2_with fail
    go_loopw [3] (fun i wr => ∃ k : Nat, i = .int .i64 k ∧ k ≤ ns.length ∧ k ≤ 257 ∧ Sml 100 (ns.take k) ∧ wr = w) (fun i _ => 257 - (intOf i).toNat)
    case atStart => exact ⟨0, rfl, Nat.zero_le _, Nat.zero_le _, fun x hx => by simp at hx, rfl⟩
    case round =>
      obtain ⟨k, rfl, hk, hk2, hS, rfl⟩ := hrel
      have HS := hideP hS
      clear hS
      by_cases hlt : k < ns.length ∧ k ≤ 256
      · obtain ⟨hlt, hlt2⟩ := hlt
        obtain ⟨x, hx⟩ : ∃ x, ns[k]? = some x := ⟨_, List.getElem?_eq_getElem hlt⟩
        have cx := cellI HX.out hx (wr := wr)
        have HT := hideP (show ns.take (k + 1) = ns.take k ++ [x] by rw [List.take_add_one, hx]; rfl)
        by_cases h1 : x < -100
        · go_wp2
          go_ret
          exact fewQ _ nofun
        · by_cases h2 : 100 < x
          · go_wp2
            go_ret
            exact fewQ _ nofun
          · go_wp2
            go_roundw
            case rel =>
              refine ⟨k + 1, by simp, hlt, by omega, ?_, trivial⟩
              rw [HT.out]
              intro y hy
              rcases List.mem_append.1 hy with hy | hy
              · exact HS.out y hy
              · simp at hy; omega
            case measure => simp [intOf]; omega
      · by_cases hl : ns.length ≤ 256
        · have hk' : k = ns.length := by omega
          subst hk'
          go_wp2
          go_ret
          exact fewQ _ (fun _ => ⟨hl, by have := HS.out; rwa [List.take_length] at this⟩)
        · have hk' : 256 < k := by omega
          have hl' : 256 < ns.length := by omega
          go_wp2
          all_goals
            go_ret
            exact fewQ _ (fun h => by simp at h; omega)
/-- A product's number, of whole numbers. -/
def mulI (M : Nat) (a b : Nat → Nat → Int) (i k : Nat) : Int := dotI (rowM M a i) (colM M b k)
theorem mulI_succ (M : Nat) (a b : Nat → Nat → Int) (i k : Nat) : mulI (M + 1) a b i k = mulI M a b i k + a i M * b M k := by
  unfold mulI dotI
  rw [rowM_succ, colM_succ, List.zipWith_append (by rw [rowM_len, colM_len])]
  simp
theorem mulI_zero (a b : Nat → Nat → Int) (i k : Nat) : mulI 0 a b i k = 0 := rfl
theorem mulI_bound {A B : Int} {R M D : Nat} {a b : Nat → Nat → Int} (hA : 0 ≤ A) (hB : 0 ≤ B) (ha : ∀ i k, i < R → k < M → -A ≤ a i k ∧ a i k ≤ A) (hb : ∀ i k, i < M → k < D → -B ≤ b i k ∧ b i k ≤ B) {i k : Nat} (hi : i < R) (hk : k < D) :
    ∀ m, m ≤ M → -(A * B * m) ≤ mulI m a b i k ∧ mulI m a b i k ≤ A * B * m := by
  intro m
  induction m with
  | zero => intro _; simp [mulI_zero]
  | succ m ih =>
    intro hm
    have h1 := ih (by omega)
    have h2 := mul_bound (ha i m hi (by omega)) (hb m k (by omega) hk)
    rw [mulI_succ]
    have : A * B * ((m + 1 : Nat) : Int) = A * B * (m : Int) + A * B := by rw [Int.natCast_add, Int.mul_add]; simp
    omega
/-- A row of whole numbers as a matrix. -/
def ofL (M : Nat) (ns : List Int) (i k : Nat) : Int := ns.getD (i * M + k) 0
theorem ofL_get {R M : Nat} {ns : List Int} (h : ns.length = R * M) {i k : Nat} (hi : i < R) (hk : k < M) : ns[i * M + k]? = some (ofL M ns i k) := by
  have := mk_idx hi hk
  simp [ofL, List.getElem?_eq_getElem (show i * M + k < ns.length by omega)]
theorem ofL_mk {R M : Nat} {ns : List Int} (h : ns.length = R * M) : ns = mk R M (ofL M ns) := mk_of 0 ns h
theorem ofL_sml {A : Int} {R M : Nat} {ns : List Int} (h : ns.length = R * M) (hs : Sml A ns) : ∀ i k, i < R → k < M → -A ≤ ofL M ns i k ∧ ofL M ns i k ≤ A := fun i k hi hk => hs _ (List.mem_of_getElem? (ofL_get h hi hk))
end Go.Proofs.YtljmggemdkfbiaaGreat

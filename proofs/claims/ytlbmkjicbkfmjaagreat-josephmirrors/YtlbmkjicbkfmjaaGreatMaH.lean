/- What layer 6's laws ask with: Few, the document's Right and Mul. -/
import Derived.Test.YtlbmkjicbkfmjaaGreatMa0
import Derived.Test.YtlbmkjicbkfmjaaGreatVeJ
import Derived.Test.YtlbmkjicbkfmjaaGreatVeAI
namespace Go.Proofs.YtlbmkjicbkfmjaaGreat
open Go.RowKit
set_option linter.unusedSimpArgs false
set_option linter.unusedVariables false

/-- What Few tells. -/
def FewQ (ns : List Int) (w : World) (e : Ending) (w' : World) : Prop := ∃ b, e = .returned (.bool b) ∧ (b = true → ns.length ≤ 256 ∧ Sml 100 ns) ∧ w' = w
theorem fewQ {ns : List Int} {w : World} (b : Bool) (h : b = true → ns.length ≤ 256 ∧ Sml 100 ns) : FewQ ns w (.returned (.bool b)) w := ⟨b, rfl, h, rfl⟩
/-- A product's number, of whole numbers. -/
def mulI (M : Nat) (a b : Nat → Nat → Int) (i k : Nat) : Int := dotI (rowM M a i) (colM M b k)
theorem mulI_succ (M : Nat) (a b : Nat → Nat → Int) (i k : Nat) : mulI (M + 1) a b i k = mulI M a b i k + a i M * b M k := by
  unfold mulI dotI
  rw [rowM_succ, colM_succ, List.zipWith_append (by rw [rowM_len, colM_len])]
  simp
theorem mulI_zero (a b : Nat → Nat → Int) (i k : Nat) : mulI 0 a b i k = 0 := rfl
theorem mulI_bound {A B : Int} {R M D : Nat} {a b : Nat → Nat → Int} (hA : 0 ≤ A) (hB : 0 ≤ B) (ha : ∀ i k, i < R → k < M → -A ≤ a i k ∧ a i k ≤ A) (hb : ∀ i k, i < M → k < D → -B ≤ b i k ∧ b i k ≤ B) {i k : Nat} (hi : i < R) (hk : k < D) :
    ∀ m, m ≤ M → -(A * B * m) ≤ mulI m a b i k ∧ mulI m a b i k ≤ A * B * m := by
  intro m
  induction m with
  | zero => intro _; simp [mulI_zero]
  | succ m ih =>
    intro hm
    have h1 := ih (by omega)
    have h2 := mul_bound (ha i m hi (by omega)) (hb m k (by omega) hk)
    rw [mulI_succ]
    have : A * B * ((m + 1 : Nat) : Int) = A * B * (m : Int) + A * B := by rw [Int.natCast_add, Int.mul_add]; simp
    omega
/-- A row of whole numbers as a matrix. -/
def ofL (M : Nat) (ns : List Int) (i k : Nat) : Int := ns.getD (i * M + k) 0
theorem ofL_get {R M : Nat} {ns : List Int} (h : ns.length = R * M) {i k : Nat} (hi : i < R) (hk : k < M) : ns[i * M + k]? = some (ofL M ns i k) := by
  have := mk_idx hi hk
  simp [ofL, List.getElem?_eq_getElem (show i * M + k < ns.length by omega)]
theorem ofL_mk {R M : Nat} {ns : List Int} (h : ns.length = R * M) : ns = mk R M (ofL M ns) := mk_of 0 ns h
theorem ofL_sml {A : Int} {R M : Nat} {ns : List Int} (h : ns.length = R * M) (hs : Sml A ns) : ∀ i k, i < R → k < M → -A ≤ ofL M ns i k ∧ ofL M ns i k ≤ A := fun i k hi hk => hs _ (List.mem_of_getElem? (ofL_get h hi hk))
end Go.Proofs.YtlbmkjicbkfmjaaGreat

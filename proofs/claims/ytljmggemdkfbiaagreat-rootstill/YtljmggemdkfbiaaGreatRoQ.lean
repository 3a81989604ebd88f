/- Roots of enclosed numbers, reckoned fast: a number's root by Newton's way, checked; what awake and RootOne of layer 10 ask, by reckoning. -/
import Derived.Test.YtljmggemdkfbiaaGreatRo0
import Derived.Test.YtljmggemdkfbiaaGreatKdn
import Derived.Test.YtljmggemdkfbiaaGreatTrBN
import Derived.Test.YtljmggemdkfbiaaGreatEn5
import Derived.Test.YtljmggemdkfbiaaGreatVeL
namespace Go.Proofs.YtljmggemdkfbiaaGreat
open Go.RowKit
set_option linter.unusedSimpArgs false
set_option linter.unusedVariables false

def newtQ : Nat → Nat → Nat → Nat
  | 0, _, x => x
  | k + 1, n, x => if (x + n / x) / 2 < x then newtQ k n ((x + n / x) / 2) else x
def rtFast (p : Int) : Int := if 0 ≤ (newtQ 70 p.toNat 4294967296 : Int) ∧ (newtQ 70 p.toNat 4294967296 : Int) * (newtQ 70 p.toNat 4294967296 : Int) ≤ p ∧ p < ((newtQ 70 p.toNat 4294967296 : Int) + 1) * ((newtQ 70 p.toNat 4294967296 : Int) + 1) then (newtQ 70 p.toNat 4294967296 : Int) else rtF p
theorem rtF_fast (p : Int) : rtF p = rtFast p := by
  unfold rtFast
  split
  · rename_i h
    exact (root_one p _ h.1 h.2.1 h.2.2).symm
  · rfl
def rtCq (a b mode : Int) : Int := upI (rtFast (szI a * szI b)) (outB (rtFast (szI a * szI b)) (szI a * szI b - rtFast (szI a * szI b) * rtFast (szI a * szI b)) (2 * rtFast (szI a * szI b) + 1) false mode)
theorem rtC_fast (a b mode : Int) : rtC a b mode = rtCq a b mode := by unfold rtC rtCq; rw [rtF_fast]
def rtNq (a b mode : Int) : Int := if rtG a b mode then rdN (rtCq a b mode) false else 0
def rtBq (a b mode : Int) : Bool := rtG a b mode && rdB (rtCq a b mode)
theorem rtN_fast (a b mode : Int) : rtN a b mode = rtNq a b mode := by unfold rtN rtNq; rw [rtC_fast]
theorem rtB_fast (a b mode : Int) : rtB a b mode = rtBq a b mode := by unfold rtB rtBq; rw [rtC_fast]
def fqBq (a m : Int) : Bool := rtBq a 16777216 m && frB (rtNq a 16777216 m) && allB [a]
def fqNq (a m : Int) : Int := toN (rtNq a 16777216 m) (fqBq a m)
theorem fqB_fast (a m : Int) : fqB a m = fqBq a m := by unfold fqB fqBq; rw [rtB_fast, rtN_fast]
theorem fqN_fast (a m : Int) : fqN a m = fqNq a m := by unfold fqN fqNq; rw [rtN_fast, fqB_fast]
def rootQ (a : En) : En := toldE (fun a _ m => fqNq a m) (fun a _ m => fqBq a m) a a (prs2 a a)
theorem rootE_fast : rootE = rootQ := by
  funext a
  unfold rootE rootQ
  rw [show nQ = fun a _ m => fqNq a m from by funext a b m; exact fqN_fast a m, show bQ = fun a _ m => fqBq a m from by funext a b m; exact fqB_fast a m]
def kdQ : Kd En := { kdN with root := rootQ }
theorem kdN_fast : kdN = kdQ := by unfold kdQ; rw [← rootE_fast]; rfl
theorem ex10_cover : enclB (squareJ kdN 1 (runO kdN 1 (clrN fun _ _ => itN 1) (fun _ => wholeN 1) (ptE 50331648 (frB 50331648)) 1).s 0 0) 3 4 = true := by
  rw [kdN_fast]
  kernel_rfl
/-- What RootOne asks, by reckoning. -/
def oneT (K : Kd En) (s h r : Int) : StO En := runO K 1 (clrN fun _ _ => wholeN s) (fun _ => wholeN h) (wholeN r) 1
def oneX (K : Kd En) (s h r : Int) : En := addE (ptE 0 (frB 0)) (mulE (divE ((oneT K s h r).e 0) (oneT K s h r).a) (surpJ K 1 (fun _ => ptE 0 (frB 0)) (fun _ => wholeN h) (wholeN 1)))
def oneC (K : Kd En) (s h r : Int) : Bool := enclB (squareJ K 1 (oneT K s h r).s 0 0) (s * s * r) (s * s * h * h + r) && enclB (oneT K s h r).a (s * s * h * h + r) 1 && enclB (oneX K s h r) (s * s * h) (s * s * h * h + r)
theorem one_all : ((List.range 5).all fun a => (List.range 5).all fun b => (List.range 5).all fun c => oneC kdQ (a + 1 : Nat) (b + 1 : Nat) (c + 1 : Nat)) = true := by kernel_rfl
theorem one_ok {s h r : Int} (s1 : 1 ≤ s) (s5 : s ≤ 5) (h1 : 1 ≤ h) (h5 : h ≤ 5) (r1 : 1 ≤ r) (r5 : r ≤ 5) : oneC kdN s h r = true := by
  rw [kdN_fast]
  obtain ⟨a, ha⟩ := Int.eq_ofNat_of_zero_le (show 0 ≤ s - 1 by omega)
  obtain ⟨b, hb⟩ := Int.eq_ofNat_of_zero_le (show 0 ≤ h - 1 by omega)
  obtain ⟨c, hc⟩ := Int.eq_ofNat_of_zero_le (show 0 ≤ r - 1 by omega)
  have H := List.all_eq_true.1 (List.all_eq_true.1 (List.all_eq_true.1 one_all a (List.mem_range.2 (by omega))) b (List.mem_range.2 (by omega))) c (List.mem_range.2 (by omega))
  rw [show s = ((a + 1 : Nat) : Int) by omega, show h = ((b + 1 : Nat) : Int) by omega, show r = ((c + 1 : Nat) : Int) by omega]
  exact H
end Go.Proofs.YtljmggemdkfbiaaGreat

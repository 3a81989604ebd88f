/- Roots of squares of whole numbers, enclosed; matrices of whole numbers that came in as rows (layer 7). -/
import Derived.Test.YtbfdkahbnfpabaaGreatTrN
import Derived.Test.YtbfdkahbnfpabaaGreatTrW
import Derived.Test.YtbfdkahbnfpabaaGreatTrRN
import Derived.Test.YtbfdkahbnfpabaaGreatEn5
namespace Go.Proofs.YtbfdkahbnfpabaaGreat
open Go.RowKit
set_option linter.unusedSimpArgs false
set_option linter.unusedVariables false

theorem encl_enq {a : En} {n d : Int} (h : Enq a n d) (hn : Wh n) (hd : 1 ≤ d ∧ d ≤ 1073741824) (hb : a.bad = false) : enclB a n d = true := by
  rcases h with rfl | ⟨hf, h1, h2⟩
  · cases hb
  · have r1 : rightB n = true := by unfold rightB; simp; have := hn.1; have := hn.2; omega
    have r2 : rightB d = true := by unfold rightB; simp; omega
    unfold enclB withinB
    rw [hf, r1, r2]
    simp [h1, h2, hd.1]
theorem rootVN_G : rootVN = rootVG subE divE rootE dotN := rfl
/-- The enclosed root of a square encloses it. -/
theorem root_encl {n : Nat} {s : Nat → Nat → Int} (hn : n ≤ 16) (hs : Sm2 100 n n s) (hl : Low 0 s) (hd : ∀ k, k < n → 0 < s k k) {i k : Nat} (hi : i < n) (hk : k < n)
    (hb : (triT (rootVN (fun i k => wholeN (sqI n s i k))) (wholeN 0) n n i k).bad = false) : enclB (triT (rootVN (fun i k => wholeN (sqI n s i k))) (wholeN 0) n n i k) (s i k) 1 = true := by
  have hw : Wh (s i k) := by have := hs i k hi hk; exact ⟨by omega, by omega⟩
  have hsq : ∀ i k, i < n → k < n → EncF (wholeN (sqI n s i k)) (itF (sqI n s i k)) := fun i k hi hk => by
    have hb : Wh (sqI n s i k) := by
      have := mulI_bound (A := 100) (B := 100) (R := n) (M := n) (D := n) (a := s) (b := fun i k => s k i) (by omega) (by omega) hs (fun i k hi hk => hs k i hk hi) hi hk n (Nat.le_refl _)
      exact ⟨by unfold sqI; omega, by unfold sqI; omega⟩
    rw [← whole_it hb]
    exact encF_whole _
  have e := rootTo_enc (n := n) (p := fun i k => wholeN (sqI n s i k)) (q := fun i k => itF (sqI n s i k)) (zn := wholeN 0) (zf := itF 0) (encF_whole 0) hsq n (Nat.le_refl _) i k hi hk
  rw [show (fun i k => itF (sqI n s i k)) = (fun i k => itF (mulI n s (fun i k => s k i) i k)) from rfl, rootTo_all hn hs hl hd hi hk, ← triT_root subE divE rootE dotN (wholeN 0) _ n n (Nat.le_refl _) i k hi, ← rootVN_G] at e
  exact encl_enq (e (fine_it hw)) hw ⟨by omega, by omega⟩ hb
theorem whole7F_call (R C : Nat) (p : Option Addr) (n cap : Nat) (g : Nat → Nat → Int) (w : World) (hr : Rq 1 cI w (.slice p n cap) (mk R C g)) (hd : Dim R C) (hn : n = R * C) (hs : ∀ i k, i < R → k < C → Wh (g i k)) :
    Calls Tryz.prog 8 #[.int .i64 R, .int .i64 C, .slice p n cap] w fun e w' => ∃ p' cap', e = .returned (.tuple #[mV R C p' n cap', .bool true]) ∧ MxI w' R C p' n cap' g ∧ Bl w w' := by
  refine (mWholeF R C p n cap _ w hr (fitB_dim hd hn) (by rw [mk_len, hn])).mono ?_
  rintro e w' ⟨p', cap', rfl, hR, hb⟩
  refine ⟨p', cap', rfl, ⟨hd, hn, ?_⟩, hb⟩
  rw [mk_map, mk_congr (g := fun i k => itF (g i k)) fun i k hi hk => whole_it (hs i k hi hk)] at hR
  exact hR.q
theorem whole7N_call (R C : Nat) (p : Option Addr) (n cap : Nat) (g : Nat → Nat → Int) (w : World) (hr : Rq 1 cI w (.slice p n cap) (mk R C g)) (hd : Dim R C) (hn : n = R * C) :
    Calls Tryz.prog 11 #[.int .i64 R, .int .i64 C, .slice p n cap] w fun e w' => ∃ p' cap', e = .returned (.tuple #[mV R C p' n cap', .bool true]) ∧ Mx 4 cellsN w' R C p' n cap' (fun i k => wholeN (g i k)) ∧ Bl w w' := by
  refine (mWholeN R C p n cap _ w hr (fitB_dim hd hn) (by rw [mk_len, hn])).mono ?_
  rintro e w' ⟨p', cap', rfl, hR, hb⟩
  refine ⟨p', cap', rfl, ⟨hd, hn, ?_⟩, hb⟩
  rw [mk_map] at hR
  exact hR.q
/-- The cells of a matrix's numbers that came in as a row of whole ones. -/
theorem cells7 {w : World} {p : Option Addr} {n cap R C : Nat} {g : Nat → Nat → Int} (h : Rq 1 cI w (.slice p n cap) (mk R C g)) (h0 : 0 < R) (h1 : 0 < C) : ∃ b o, p = some ⟨b, o, none⟩ ∧ ∀ i k, i < R → k < C → ∀ u, Bl w u → u.cell? ⟨b, o + (i * C + k), none⟩ = some (.int .i64 (g i k)) := by
  have hz := mk_get g h0 h1
  rcases h with ⟨_, _, _, hn, _⟩ | ⟨b, o, cc, e, _, hlt, HX⟩
  · rw [hn] at hz; simp at hz
  · cases e
    exact ⟨b, o, rfl, fun i k hi hk u hu => (bl_cell hu _ _ hlt).trans (cellI HX (mk_get g hi hk) (wr := w))⟩
end Go.Proofs.YtbfdkahbnfpabaaGreat

/- MatSpreads: a product with a sum is the sum of both products; with a row beside another one both products stand beside one another (of 4 by 4 at most, numbers from -100 up to 100). Conditions: none (every input). -/
import Derived.Test.YtokbmbgiimbkpaaMaI
import Derived.Test.YtokbmbgiimbkpaaMaX
import Derived.Test.YtokbmbgiimbkpaaMaW
import Derived.Test.YtokbmbgiimbkpaaVeI
import Derived.ProofKit
import Derived.OpenShut
import Derived.Carry
/- Sums, and what stands beside one another, of matrices of whole numbers, as fractions (layer 6's laws). -/
namespace Go.Proofs.Ytokbmbgiimbkpaa
open Go.RowKit
set_option linter.unusedSimpArgs false
set_option linter.unusedVariables false

theorem add6_any {A B : Int} (R C : Nat) (p q : Option Addr) (n cap cap2 : Nat) (a b : Nat → Nat → Int) (w : World) (hx : MxI w R C p n cap a) (hy : MxI w R C q n cap2 b) (ha : Sm2 A R C a) (hb : Sm2 B R C b) (hA : A ≤ 100000000) (hB : B ≤ 100000000) :
    Calls Try.prog 22 #[mV R C p n cap, mV R C q n cap2] w fun e w' => ∃ p' cap', e = .returned (.tuple #[mV R C p' n cap', .bool true]) ∧ MxI w' R C p' n cap' (fun i k => a i k + b i k) ∧ Bl w w' := by
  refine (mAdd_any R C p q n cap cap2 _ _ w hx hy).mono ?_
  rintro e w' ⟨p', cap', rfl, h, hb'⟩
  refine ⟨p', cap', rfl, h.congr (fun i k hi hk => ?_), hb'⟩
  have h1 := ha i k hi hk
  have h2 := hb i k hi hk
  exact add_it ⟨by omega, by omega⟩ ⟨by omega, by omega⟩ ⟨by omega, by omega⟩
theorem sub6_any {A B : Int} (R C : Nat) (p q : Option Addr) (n cap cap2 : Nat) (a b : Nat → Nat → Int) (w : World) (hx : MxI w R C p n cap a) (hy : MxI w R C q n cap2 b) (ha : Sm2 A R C a) (hb : Sm2 B R C b) (hA : A ≤ 100000000) (hB : B ≤ 100000000) :
    Calls Try.prog 23 #[mV R C p n cap, mV R C q n cap2] w fun e w' => ∃ p' cap', e = .returned (.tuple #[mV R C p' n cap', .bool true]) ∧ MxI w' R C p' n cap' (fun i k => a i k - b i k) ∧ Bl w w' := by
  refine (mSub_any R C p q n cap cap2 _ _ w hx hy).mono ?_
  rintro e w' ⟨p', cap', rfl, h, hb'⟩
  refine ⟨p', cap', rfl, h.congr (fun i k hi hk => ?_), hb'⟩
  have h1 := ha i k hi hk
  have h2 := hb i k hi hk
  exact sub_it ⟨by omega, by omega⟩ ⟨by omega, by omega⟩ ⟨by omega, by omega⟩
theorem beside6_any (R C D : Nat) (p : Option Addr) (n cap : Nat) (a : Nat → Nat → Int) (q : Option Addr) (n2 cap2 : Nat) (b : Nat → Nat → Int) (E N : Nat) (w : World) (hx : MxI w R C p n cap a) (hy : MxI w R D q n2 cap2 b) (hE : E = C + D) (hE16 : E ≤ 16) (hN : N = R * E) :
    Calls Try.prog 24 #[mV R C p n cap, mV R D q n2 cap2] w fun e w' => ∃ p' cap', e = .returned (.tuple #[mV R E p' N cap', .bool true]) ∧ MxI w' R E p' N cap' (besideM C a b) ∧ Bl w w' := by
  refine (mBesideF R C D p n cap _ q n2 cap2 _ E N w hx hy hE hE16 hN).mono ?_
  rintro e w' ⟨p', cap', rfl, h, hb'⟩
  refine ⟨p', cap', rfl, h.congr (fun i k hi hk => ?_), hb'⟩
  unfold besideM
  split <;> rfl
/-- A product with a sum is the sum of both products. -/
theorem mulI_add (M : Nat) (a b c : Nat → Nat → Int) (i k : Nat) : mulI M a (fun i k => b i k + c i k) i k = mulI M a b i k + mulI M a c i k := by
  induction M with
  | zero => simp [mulI_zero]
  | succ M ih => rw [mulI_succ, mulI_succ, mulI_succ, ih, Int.mul_add]; omega
/-- A product with two beside one another is both products beside one another. -/
theorem mulI_beside (M D : Nat) (a b c : Nat → Nat → Int) (i k : Nat) : mulI M a (besideM D b c) i k = besideM D (mulI M a b) (mulI M a c) i k := by
  unfold besideM
  by_cases h : k < D
  · rw [if_pos h]
    induction M with
    | zero => rfl
    | succ M ih => rw [mulI_succ, mulI_succ, ih, if_pos h]
  · rw [if_neg h]
    induction M with
    | zero => rfl
    | succ M ih => rw [mulI_succ, mulI_succ, ih, if_neg h]
theorem sm2_add {A B : Int} {R C : Nat} {a b : Nat → Nat → Int} (ha : Sm2 A R C a) (hb : Sm2 B R C b) : Sm2 (A + B) R C (fun i k => a i k + b i k) := fun i k hi hk => by
  have h1 := ha i k hi hk
  have h2 := hb i k hi hk
  show -(A + B) ≤ a i k + b i k ∧ a i k + b i k ≤ A + B
  exact ⟨by omega, by omega⟩
theorem sm2_beside {A : Int} {R C D : Nat} {a b : Nat → Nat → Int} (ha : Sm2 A R C a) (hb : Sm2 A R D b) : Sm2 A R (C + D) (besideM C a b) := fun i k hi hk => by
  unfold besideM
  by_cases h : k < C
  · rw [if_pos h]; exact ha i k hi h
  · rw [if_neg h]; exact hb i _ hi (by omega)
theorem sm2_mul {A B : Int} {R M D : Nat} {a b : Nat → Nat → Int} (hA : 0 ≤ A) (hB : 0 ≤ B) (ha : Sm2 A R M a) (hb : Sm2 B M D b) : Sm2 (A * B * M) R D (mulI M a b) := fun i k hi hk => mulI_bound hA hB ha hb hi hk M (Nat.le_refl _)
theorem sm2_le {A B : Int} {R C : Nat} {a : Nat → Nat → Int} (ha : Sm2 A R C a) (h : A ≤ B) : Sm2 B R C a := fun i k hi hk => by
  have h1 := ha i k hi hk
  exact ⟨by omega, by omega⟩
/-- Alike, of two matrices of the same whole numbers. -/
theorem alike6_any (R C : Nat) (p q : Option Addr) (n cap cap2 : Nat) (a b : Nat → Nat → Int) (w : World) (hx : MxI w R C p n cap a) (hy : MxI w R C q n cap2 b) (e : ∀ i k, i < R → k < C → a i k = b i k) :
    Calls Try.prog 30 #[mV R C p n cap, mV R C q n cap2] w fun e w' => e = .returned (.bool true) ∧ Bl w w' := by
  have hy' := hy.congr (g := fun i k => itF (a i k)) (fun i k hi hk => by rw [e i k hi hk])
  exact alike_any R C p q n cap cap2 _ w hx.2.2 hy'.2.2 (by rw [mk_len, hx.2.1]) (by rw [hx.2.1]; have := hx.1.lt; omega)
end Go.Proofs.Ytokbmbgiimbkpaa

/- The walk of MatSpreads. Written by genMl.py. -/
namespace Go.Proofs.Ytokbmbgiimbkpaa
open Go.RowKit
set_option linter.unusedSimpArgs false
set_option linter.unusedVariables false

set_option maxRecDepth 100000 in
set_option maxHeartbeats 8000000 in
theorem walk_MatSpreads (va : Value) (xa : List Int) (vb : Value) (xb : List Int) (vc : Value) (xc : List Int) (n : Int) (w : World) (ha : Rq 1 cI w va xa) (hb : Rq 1 cI w vb xb) (hc : Rq 1 cI w vc xc) :
    Calls Try.prog 9 #[va, vb, vc, .int .i64 n] w fun e w' => e = .returned (.bool true) ∧ Bl w w' := by
  have AW := hideP awake6_any
  have Fa := hideP (few6_any va xa w ha)
  obtain ⟨pa, ca, rfl, _, _⟩ := ha.cut
  obtain ⟨la, hla⟩ : ∃ l, l = xa.length := ⟨_, rfl⟩
  rw [← hla] at Fa ha ⊢
  have Ha := hideP ha
  have HLa := hideP hla
  clear ha hla
  have Fb := hideP (few6_any vb xb w hb)
  obtain ⟨pb, cb, rfl, _, _⟩ := hb.cut
  obtain ⟨lb, hlb⟩ : ∃ l, l = xb.length := ⟨_, rfl⟩
  rw [← hlb] at Fb hb ⊢
  have Hb := hideP hb
  have HLb := hideP hlb
  clear hb hlb
  have Fc := hideP (few6_any vc xc w hc)
  obtain ⟨pc, cc, rfl, _, _⟩ := hc.cut
  obtain ⟨lc, hlc⟩ : ∃ l, l = xc.length := ⟨_, rfl⟩
  rw [← hlc] at Fc hc ⊢
  have Hc := hideP hc
  have HLc := hideP hlc
  clear hc hlc
  go_enter Try.func9, Try.ntmps9
  go_wp2_with fail
  refine Fa.out.mono ?_
  rintro e w1 ⟨b1, rfl, hb1, hw1⟩
  have hw2 := hw1.symm
  subst hw2
  clear Fa hw1
  cases b1 with
  | false =>
    go_wp2_with fail
    refine (AW.out _).mono ?_
    rintro e w9 ⟨rfl, h9⟩
    go_wp2
    go_ret
    exact ⟨rfl, (Bl.refl _).trans h9⟩
  | true =>
    have Sa := hideP (hb1 rfl).2
    clear hb1
    go_wp2_with fail
    refine Fb.out.mono ?_
    rintro e w1 ⟨b1, rfl, hb1, hw1⟩
    have hw2 := hw1.symm
    subst hw2
    clear Fb hw1
    cases b1 with
    | false =>
      go_wp2_with fail
      refine (AW.out _).mono ?_
      rintro e w9 ⟨rfl, h9⟩
      go_wp2
      go_ret
      exact ⟨rfl, (Bl.refl _).trans h9⟩
    | true =>
      have Sb := hideP (hb1 rfl).2
      clear hb1
      go_wp2_with fail
      refine Fc.out.mono ?_
      rintro e w1 ⟨b1, rfl, hb1, hw1⟩
      have hw2 := hw1.symm
      subst hw2
      clear Fc hw1
      cases b1 with
      | false =>
        go_wp2_with fail
        refine (AW.out _).mono ?_
        rintro e w9 ⟨rfl, h9⟩
        go_wp2
        go_ret
        exact ⟨rfl, (Bl.refl _).trans h9⟩
      | true =>
        have Sc := hideP (hb1 rfl).2
        clear hb1
        by_cases hn1 : n < 1
        · skip
          go_wp2_with fail
          refine (AW.out _).mono ?_
          rintro e w9 ⟨rfl, h9⟩
          go_wp2
          go_ret
          exact ⟨rfl, (Bl.refl _).trans h9⟩
        by_cases hn2 : 4 < n
        · skip
          go_wp2_with fail
          refine (AW.out _).mono ?_
          rintro e w9 ⟨rfl, h9⟩
          go_wp2
          go_ret
          exact ⟨rfl, (Bl.refl _).trans h9⟩
        obtain ⟨m, rfl⟩ : ∃ m : Nat, n = (m : Int) := ⟨n.toNat, by omega⟩
        have Wa := hideP (fun u (hu : Bl w u) (hf : fitB m m la = true) => whole6_call m m pa la ca xa u (Ha.out.later hu) hf HLa.out.symm Sa.out)
        have Wb := hideP (fun u (hu : Bl w u) (hf : fitB m m lb = true) => whole6_call m m pb lb cb xb u (Hb.out.later hu) hf HLb.out.symm Sb.out)
        have Wc := hideP (fun u (hu : Bl w u) (hf : fitB m m lc = true) => whole6_call m m pc lc cc xc u (Hc.out.later hu) hf HLc.out.symm Sc.out)
        cases hfa : fitB m m la with
        | false =>
          cases hfb : fitB m m lb with
          | false =>
            cases hfc : fitB m m lc with
            | false =>
              go_wp2_with fail
              refine (mWholeF_no _ _ _ _ _ _ hfa).mono ?_
              rintro e wa ⟨rfl, ha⟩
              have ma := MBox.new wa 0 0 none 0 0 27
              have hBa : Bl w (wa.alloc (.cells #[.int .i64 0, .int .i64 0, .slice none 0 0] 27)) := ha.alloc _
              go_wp2_with fail
              refine (mWholeF_no _ _ _ _ _ _ hfb).mono ?_
              rintro e wb ⟨rfl, hb⟩
              have mb := MBox.new wb 0 0 none 0 0 27
              have hBb : Bl w (wb.alloc (.cells #[.int .i64 0, .int .i64 0, .slice none 0 0] 27)) := (hBa.trans hb).alloc _
              go_wp2_with fail
              refine (mWholeF_no _ _ _ _ _ _ hfc).mono ?_
              rintro e wc ⟨rfl, hc⟩
              have mc := MBox.new wc 0 0 none 0 0 27
              have hBc : Bl w (wc.alloc (.cells #[.int .i64 0, .int .i64 0, .slice none 0 0] 27)) := (hBb.trans hc).alloc _
              go_wp2_with fail
              refine (AW.out _).mono ?_
              rintro e w9 ⟨rfl, h9⟩
              go_wp2
              go_ret
              exact ⟨rfl, hBc.trans h9⟩
            | true =>
              have Wc := hideP (fun u hu => Wc.out u hu hfc)
              go_wp2_with fail
              refine (mWholeF_no _ _ _ _ _ _ hfa).mono ?_
              rintro e wa ⟨rfl, ha⟩
              have ma := MBox.new wa 0 0 none 0 0 27
              have hBa : Bl w (wa.alloc (.cells #[.int .i64 0, .int .i64 0, .slice none 0 0] 27)) := ha.alloc _
              go_wp2_with fail
              refine (mWholeF_no _ _ _ _ _ _ hfb).mono ?_
              rintro e wb ⟨rfl, hb⟩
              have mb := MBox.new wb 0 0 none 0 0 27
              have hBb : Bl w (wb.alloc (.cells #[.int .i64 0, .int .i64 0, .slice none 0 0] 27)) := (hBa.trans hb).alloc _
              go_wp2_with fail
              refine (Wc.out _ hBb).mono ?_
              rintro e wc ⟨qc, kc, rfl, hx, hc⟩
              have HXc := hideP hx
              clear hx
              have mc := MBox.new wc m m qc lc kc 27
              have hBc : Bl w (wc.alloc (.cells #[.int .i64 m, .int .i64 m, .slice qc lc kc] 27)) := (hBb.trans hc).alloc _
              go_wp2_with fail
              refine (AW.out _).mono ?_
              rintro e w9 ⟨rfl, h9⟩
              go_wp2
              go_ret
              exact ⟨rfl, hBc.trans h9⟩
          | true =>
            cases hfc : fitB m m lc with
            | false =>
              have Wb := hideP (fun u hu => Wb.out u hu hfb)
              go_wp2_with fail
              refine (mWholeF_no _ _ _ _ _ _ hfa).mono ?_
              rintro e wa ⟨rfl, ha⟩
              have ma := MBox.new wa 0 0 none 0 0 27
              have hBa : Bl w (wa.alloc (.cells #[.int .i64 0, .int .i64 0, .slice none 0 0] 27)) := ha.alloc _
              go_wp2_with fail
              refine (Wb.out _ hBa).mono ?_
              rintro e wb ⟨qb, kb, rfl, hx, hb⟩
              have HXb := hideP hx
              clear hx
              have mb := MBox.new wb m m qb lb kb 27
              have hBb : Bl w (wb.alloc (.cells #[.int .i64 m, .int .i64 m, .slice qb lb kb] 27)) := (hBa.trans hb).alloc _
              go_wp2_with fail
              refine (mWholeF_no _ _ _ _ _ _ hfc).mono ?_
              rintro e wc ⟨rfl, hc⟩
              have mc := MBox.new wc 0 0 none 0 0 27
              have hBc : Bl w (wc.alloc (.cells #[.int .i64 0, .int .i64 0, .slice none 0 0] 27)) := (hBb.trans hc).alloc _
              go_wp2_with fail
              refine (AW.out _).mono ?_
              rintro e w9 ⟨rfl, h9⟩
              go_wp2
              go_ret
              exact ⟨rfl, hBc.trans h9⟩
            | true =>
              have Wb := hideP (fun u hu => Wb.out u hu hfb)
              have Wc := hideP (fun u hu => Wc.out u hu hfc)
              go_wp2_with fail
              refine (mWholeF_no _ _ _ _ _ _ hfa).mono ?_
              rintro e wa ⟨rfl, ha⟩
              have ma := MBox.new wa 0 0 none 0 0 27
              have hBa : Bl w (wa.alloc (.cells #[.int .i64 0, .int .i64 0, .slice none 0 0] 27)) := ha.alloc _
              go_wp2_with fail
              refine (Wb.out _ hBa).mono ?_
              rintro e wb ⟨qb, kb, rfl, hx, hb⟩
              have HXb := hideP hx
              clear hx
              have mb := MBox.new wb m m qb lb kb 27
              have hBb : Bl w (wb.alloc (.cells #[.int .i64 m, .int .i64 m, .slice qb lb kb] 27)) := (hBa.trans hb).alloc _
              go_wp2_with fail
              refine (Wc.out _ hBb).mono ?_
              rintro e wc ⟨qc, kc, rfl, hx, hc⟩
              have HXc := hideP hx
              clear hx
              have mc := MBox.new wc m m qc lc kc 27
              have hBc : Bl w (wc.alloc (.cells #[.int .i64 m, .int .i64 m, .slice qc lc kc] 27)) := (hBb.trans hc).alloc _
              go_wp2_with fail
              refine (AW.out _).mono ?_
              rintro e w9 ⟨rfl, h9⟩
              go_wp2
              go_ret
              exact ⟨rfl, hBc.trans h9⟩
        | true =>
          cases hfb : fitB m m lb with
          | false =>
            cases hfc : fitB m m lc with
            | false =>
              have Wa := hideP (fun u hu => Wa.out u hu hfa)
              go_wp2_with fail
              refine (Wa.out _ (Bl.refl _)).mono ?_
              rintro e wa ⟨qa, ka, rfl, hx, ha⟩
              have HXa := hideP hx
              clear hx
              have ma := MBox.new wa m m qa la ka 27
              have hBa : Bl w (wa.alloc (.cells #[.int .i64 m, .int .i64 m, .slice qa la ka] 27)) := ha.alloc _
              go_wp2_with fail
              refine (mWholeF_no _ _ _ _ _ _ hfb).mono ?_
              rintro e wb ⟨rfl, hb⟩
              have mb := MBox.new wb 0 0 none 0 0 27
              have hBb : Bl w (wb.alloc (.cells #[.int .i64 0, .int .i64 0, .slice none 0 0] 27)) := (hBa.trans hb).alloc _
              go_wp2_with fail
              refine (mWholeF_no _ _ _ _ _ _ hfc).mono ?_
              rintro e wc ⟨rfl, hc⟩
              have mc := MBox.new wc 0 0 none 0 0 27
              have hBc : Bl w (wc.alloc (.cells #[.int .i64 0, .int .i64 0, .slice none 0 0] 27)) := (hBb.trans hc).alloc _
              go_wp2_with fail
              refine (AW.out _).mono ?_
              rintro e w9 ⟨rfl, h9⟩
              go_wp2
              go_ret
              exact ⟨rfl, hBc.trans h9⟩
            | true =>
              have Wa := hideP (fun u hu => Wa.out u hu hfa)
              have Wc := hideP (fun u hu => Wc.out u hu hfc)
              go_wp2_with fail
              refine (Wa.out _ (Bl.refl _)).mono ?_
              rintro e wa ⟨qa, ka, rfl, hx, ha⟩
              have HXa := hideP hx
              clear hx
              have ma := MBox.new wa m m qa la ka 27
              have hBa : Bl w (wa.alloc (.cells #[.int .i64 m, .int .i64 m, .slice qa la ka] 27)) := ha.alloc _
              go_wp2_with fail
              refine (mWholeF_no _ _ _ _ _ _ hfb).mono ?_
              rintro e wb ⟨rfl, hb⟩
              have mb := MBox.new wb 0 0 none 0 0 27
              have hBb : Bl w (wb.alloc (.cells #[.int .i64 0, .int .i64 0, .slice none 0 0] 27)) := (hBa.trans hb).alloc _
              go_wp2_with fail
              refine (Wc.out _ hBb).mono ?_
              rintro e wc ⟨qc, kc, rfl, hx, hc⟩
              have HXc := hideP hx
              clear hx
              have mc := MBox.new wc m m qc lc kc 27
              have hBc : Bl w (wc.alloc (.cells #[.int .i64 m, .int .i64 m, .slice qc lc kc] 27)) := (hBb.trans hc).alloc _
              go_wp2_with fail
              refine (AW.out _).mono ?_
              rintro e w9 ⟨rfl, h9⟩
              go_wp2
              go_ret
              exact ⟨rfl, hBc.trans h9⟩
          | true =>
            cases hfc : fitB m m lc with
            | false =>
              have Wa := hideP (fun u hu => Wa.out u hu hfa)
              have Wb := hideP (fun u hu => Wb.out u hu hfb)
              go_wp2_with fail
              refine (Wa.out _ (Bl.refl _)).mono ?_
              rintro e wa ⟨qa, ka, rfl, hx, ha⟩
              have HXa := hideP hx
              clear hx
              have ma := MBox.new wa m m qa la ka 27
              have hBa : Bl w (wa.alloc (.cells #[.int .i64 m, .int .i64 m, .slice qa la ka] 27)) := ha.alloc _
              go_wp2_with fail
              refine (Wb.out _ hBa).mono ?_
              rintro e wb ⟨qb, kb, rfl, hx, hb⟩
              have HXb := hideP hx
              clear hx
              have mb := MBox.new wb m m qb lb kb 27
              have hBb : Bl w (wb.alloc (.cells #[.int .i64 m, .int .i64 m, .slice qb lb kb] 27)) := (hBa.trans hb).alloc _
              go_wp2_with fail
              refine (mWholeF_no _ _ _ _ _ _ hfc).mono ?_
              rintro e wc ⟨rfl, hc⟩
              have mc := MBox.new wc 0 0 none 0 0 27
              have hBc : Bl w (wc.alloc (.cells #[.int .i64 0, .int .i64 0, .slice none 0 0] 27)) := (hBb.trans hc).alloc _
              go_wp2_with fail
              refine (AW.out _).mono ?_
              rintro e w9 ⟨rfl, h9⟩
              go_wp2
              go_ret
              exact ⟨rfl, hBc.trans h9⟩
            | true =>
              have Wa := hideP (fun u hu => Wa.out u hu hfa)
              have Wb := hideP (fun u hu => Wb.out u hu hfb)
              have Wc := hideP (fun u hu => Wc.out u hu hfc)
              obtain ⟨m1, m2, e1, e2, hd, hna⟩ := fitB_nat hfa
              obtain rfl : m = m1 := by omega
              skip
              have hla : la = m * m := by obtain ⟨R, C, e1, e2, _, h⟩ := fitB_nat hfa; rw [h, show R = m by omega, show C = m by omega]
              have hlb : lb = m * m := by obtain ⟨R, C, e1, e2, _, h⟩ := fitB_nat hfb; rw [h, show R = m by omega, show C = m by omega]
              have hlc : lc = m * m := by obtain ⟨R, C, e1, e2, _, h⟩ := fitB_nat hfc; rw [h, show R = m by omega, show C = m by omega]
              have sa : Sm2 100 m m (ofL m xa) := ofL_sml (by rw [← HLa.out]; exact hla) Sa.out
              have sb : Sm2 100 m m (ofL m xb) := ofL_sml (by rw [← HLb.out]; exact hlb) Sb.out
              have sc : Sm2 100 m m (ofL m xc) := ofL_sml (by rw [← HLc.out]; exact hlc) Sc.out
              have hEQ := hideP hla
              have eb : la = lb := by omega
              have ec : la = lc := by omega
              clear hlb hlc
              subst eb
              subst ec
              obtain ⟨E, hE⟩ : ∃ E, E = m + m := ⟨_, rfl⟩
              obtain ⟨N, hN⟩ : ∃ N, N = m * E := ⟨_, rfl⟩
              have hm4 : m ≤ 4 := by omega
              have syz := hideP (sm2_add sb sc)
              have sxy := hideP (sm2_le (sm2_mul (by omega) (by omega) sa sb) (show 100 * 100 * (m : Int) ≤ 40000 by omega))
              have sxz := hideP (sm2_le (sm2_mul (by omega) (by omega) sa sc) (show 100 * 100 * (m : Int) ≤ 40000 by omega))
              have sbe := hideP (sm2_beside sb sc)
              have SA := hideP sa
              have SB := hideP sb
              have SC := hideP sc
              have HE := hideP hE
              have HN := hideP hN
              have sbE : Sm2 100 m E (besideM m (ofL m xb) (ofL m xc)) := by rw [hE]; exact sm2_beside sb sc
              have SBE := hideP sbE
              clear sa sb sc sbE hla hE hN hna hd e1 e2 sbe
              generalize ofL m xa = fa at *
              generalize ofL m xb = fb at *
              generalize ofL m xc = fc at *
              go_wp2_with fail
              refine (Wa.out _ (Bl.refl _)).mono ?_
              rintro e wa ⟨qa, ka, rfl, hx, ha⟩
              have HXa := hideP hx
              clear hx
              have ma := MBox.new wa m m qa la ka 27
              have hBa : Bl w (wa.alloc (.cells #[.int .i64 m, .int .i64 m, .slice qa la ka] 27)) := ha.alloc _
              go_wp2_with fail
              refine (Wb.out _ hBa).mono ?_
              rintro e wb ⟨qb, kb, rfl, hx, hb⟩
              have HXb := hideP hx
              clear hx
              have mb := MBox.new wb m m qb la kb 27
              have hBb : Bl w (wb.alloc (.cells #[.int .i64 m, .int .i64 m, .slice qb la kb] 27)) := (hBa.trans hb).alloc _
              go_wp2_with fail
              refine (Wc.out _ hBb).mono ?_
              rintro e wc ⟨qc, kc, rfl, hx, hc⟩
              have HXc := hideP hx
              clear hx
              have mc := MBox.new wc m m qc la kc 27
              have hBc : Bl w (wc.alloc (.cells #[.int .i64 m, .int .i64 m, .slice qc la kc] 27)) := (hBb.trans hc).alloc _
              have hE16 : E ≤ 16 := by have := HE.out; omega
              have Ta_b : Bl (wa.alloc _) wb := hb
              have Tb_c : Bl (wb.alloc _) wc := hc
              have Ub_c : Bl wb wc := ((Bl.refl _).alloc _).trans Tb_c
              have Ta_c := Ta_b.trans Ub_c
              have Ua_c : Bl wa wc := ((Bl.refl _).alloc _).trans Ta_c
              have hBw : Bl w wc := hBb.trans hc
              have Ma := ma
              have Mb := mb
              have Mc := mc
              clear ma mb mc
              obtain ⟨x00, x01, x02, _, _, _, xl0⟩ := Mb.later Tb_c
              go_wp2_with fail
              refine (add6_any (A := 100) (B := 100) m m qb qc la kb kc _ _ _ (HXb.out.later (Ub_c.alloc _)) (HXc.out.later ((Bl.refl _).alloc _)) SB.out SC.out (by omega) (by omega)).mono ?_
              rintro e wyz ⟨qyz, kyz, rfl, hx, hyz⟩
              have HXyz := hideP hx
              clear hx
              clear x00 x01 x02 xl0
              have Myz := MBox.new wyz m m qyz la kyz 27
              have Byz : Bl wc wyz := ((Bl.refl _).alloc _).trans hyz
              have Ta_yz := Ta_c.trans Byz
              have Ua_yz : Bl wa wyz := ((Bl.refl _).alloc _).trans Ta_yz
              have Tb_yz := Tb_c.trans Byz
              have Ub_yz : Bl wb wyz := ((Bl.refl _).alloc _).trans Tb_yz
              have Tc_yz : Bl (wc.alloc _) wyz := hyz
              have Uc_yz : Bl wc wyz := ((Bl.refl _).alloc _).trans Tc_yz
              obtain ⟨x00, x01, x02, _, _, _, xl0⟩ := Ma.later Ta_yz
              go_wp2_with fail
              refine (mul6_any (A := 100) (B := 100 + 100) m m m qa la ka _ qyz la kyz _ la _ (HXa.out.later (Ua_yz.alloc _)) (HXyz.out.later ((Bl.refl _).alloc _)) hEQ.out SA.out syz.out (by omega) (by omega) (by omega)).mono ?_
              rintro e wle ⟨qle, kle, rfl, hx, hle⟩
              have HXle := hideP hx
              clear hx
              clear x00 x01 x02 xl0
              have Mle := MBox.new wle m m qle la kle 27
              have Ble : Bl wyz wle := ((Bl.refl _).alloc _).trans hle
              have Ta_le := Ta_yz.trans Ble
              have Ua_le : Bl wa wle := ((Bl.refl _).alloc _).trans Ta_le
              have Tb_le := Tb_yz.trans Ble
              have Ub_le : Bl wb wle := ((Bl.refl _).alloc _).trans Tb_le
              have Tc_le := Tc_yz.trans Ble
              have Uc_le : Bl wc wle := ((Bl.refl _).alloc _).trans Tc_le
              have Tyz_le : Bl (wyz.alloc _) wle := hle
              have Uyz_le : Bl wyz wle := ((Bl.refl _).alloc _).trans Tyz_le
              obtain ⟨x00, x01, x02, _, _, _, xl0⟩ := Ma.later Ta_le
              obtain ⟨x10, x11, x12, _, _, _, xl1⟩ := Mb.later Tb_le
              go_wp2_with fail
              refine (mul6_any (A := 100) (B := 100) m m m qa la ka _ qb la kb _ la _ (HXa.out.later (Ua_le.alloc _)) (HXb.out.later (Ub_le.alloc _)) hEQ.out SA.out SB.out (by omega) (by omega) (by omega)).mono ?_
              rintro e wxy ⟨qxy, kxy, rfl, hx, hxy⟩
              have HXxy := hideP hx
              clear hx
              clear x00 x01 x02 xl0
              clear x10 x11 x12 xl1
              have Mxy := MBox.new wxy m m qxy la kxy 27
              have Bxy : Bl wle wxy := ((Bl.refl _).alloc _).trans hxy
              have Ta_xy := Ta_le.trans Bxy
              have Ua_xy : Bl wa wxy := ((Bl.refl _).alloc _).trans Ta_xy
              have Tb_xy := Tb_le.trans Bxy
              have Ub_xy : Bl wb wxy := ((Bl.refl _).alloc _).trans Tb_xy
              have Tc_xy := Tc_le.trans Bxy
              have Uc_xy : Bl wc wxy := ((Bl.refl _).alloc _).trans Tc_xy
              have Tyz_xy := Tyz_le.trans Bxy
              have Uyz_xy : Bl wyz wxy := ((Bl.refl _).alloc _).trans Tyz_xy
              have Tle_xy : Bl (wle.alloc _) wxy := hxy
              have Ule_xy : Bl wle wxy := ((Bl.refl _).alloc _).trans Tle_xy
              obtain ⟨x00, x01, x02, _, _, _, xl0⟩ := Ma.later Ta_xy
              obtain ⟨x10, x11, x12, _, _, _, xl1⟩ := Mc.later Tc_xy
              go_wp2_with fail
              refine (mul6_any (A := 100) (B := 100) m m m qa la ka _ qc la kc _ la _ (HXa.out.later (Ua_xy.alloc _)) (HXc.out.later (Uc_xy.alloc _)) hEQ.out SA.out SC.out (by omega) (by omega) (by omega)).mono ?_
              rintro e wxz ⟨qxz, kxz, rfl, hx, hxz⟩
              have HXxz := hideP hx
              clear hx
              clear x00 x01 x02 xl0
              clear x10 x11 x12 xl1
              have Mxz := MBox.new wxz m m qxz la kxz 27
              have Bxz : Bl wxy wxz := ((Bl.refl _).alloc _).trans hxz
              have Ta_xz := Ta_xy.trans Bxz
              have Ua_xz : Bl wa wxz := ((Bl.refl _).alloc _).trans Ta_xz
              have Tb_xz := Tb_xy.trans Bxz
              have Ub_xz : Bl wb wxz := ((Bl.refl _).alloc _).trans Tb_xz
              have Tc_xz := Tc_xy.trans Bxz
              have Uc_xz : Bl wc wxz := ((Bl.refl _).alloc _).trans Tc_xz
              have Tyz_xz := Tyz_xy.trans Bxz
              have Uyz_xz : Bl wyz wxz := ((Bl.refl _).alloc _).trans Tyz_xz
              have Tle_xz := Tle_xy.trans Bxz
              have Ule_xz : Bl wle wxz := ((Bl.refl _).alloc _).trans Tle_xz
              have Txy_xz : Bl (wxy.alloc _) wxz := hxz
              have Uxy_xz : Bl wxy wxz := ((Bl.refl _).alloc _).trans Txy_xz
              obtain ⟨x00, x01, x02, _, _, _, xl0⟩ := Mxy.later Txy_xz
              go_wp2_with fail
              refine (add6_any (A := 40000) (B := 40000) m m qxy qxz la kxy kxz _ _ _ (HXxy.out.later (Uxy_xz.alloc _)) (HXxz.out.later ((Bl.refl _).alloc _)) sxy.out sxz.out (by omega) (by omega)).mono ?_
              rintro e wri ⟨qri, kri, rfl, hx, hri⟩
              have HXri := hideP hx
              clear hx
              clear x00 x01 x02 xl0
              have Mri := MBox.new wri m m qri la kri 27
              have Bri : Bl wxz wri := ((Bl.refl _).alloc _).trans hri
              have Ta_ri := Ta_xz.trans Bri
              have Ua_ri : Bl wa wri := ((Bl.refl _).alloc _).trans Ta_ri
              have Tb_ri := Tb_xz.trans Bri
              have Ub_ri : Bl wb wri := ((Bl.refl _).alloc _).trans Tb_ri
              have Tc_ri := Tc_xz.trans Bri
              have Uc_ri : Bl wc wri := ((Bl.refl _).alloc _).trans Tc_ri
              have Tyz_ri := Tyz_xz.trans Bri
              have Uyz_ri : Bl wyz wri := ((Bl.refl _).alloc _).trans Tyz_ri
              have Tle_ri := Tle_xz.trans Bri
              have Ule_ri : Bl wle wri := ((Bl.refl _).alloc _).trans Tle_ri
              have Txy_ri := Txy_xz.trans Bri
              have Uxy_ri : Bl wxy wri := ((Bl.refl _).alloc _).trans Txy_ri
              have Txz_ri : Bl (wxz.alloc _) wri := hri
              have Uxz_ri : Bl wxz wri := ((Bl.refl _).alloc _).trans Txz_ri
              obtain ⟨x00, x01, x02, _, _, _, xl0⟩ := Mb.later Tb_ri
              obtain ⟨x10, x11, x12, _, _, _, xl1⟩ := Mc.later Tc_ri
              go_wp2_with fail
              refine (beside6_any m m m qb la kb _ qc la kc _ E N _ (HXb.out.later (Ub_ri.alloc _)) (HXc.out.later (Uc_ri.alloc _)) HE.out hE16 HN.out).mono ?_
              rintro e wbe ⟨qbe, kbe, rfl, hx, hbe⟩
              have HXbe := hideP hx
              clear hx
              clear x00 x01 x02 xl0
              clear x10 x11 x12 xl1
              have Mbe := MBox.new wbe m E qbe N kbe 27
              have Bbe : Bl wri wbe := ((Bl.refl _).alloc _).trans hbe
              have Ta_be := Ta_ri.trans Bbe
              have Ua_be : Bl wa wbe := ((Bl.refl _).alloc _).trans Ta_be
              have Tb_be := Tb_ri.trans Bbe
              have Ub_be : Bl wb wbe := ((Bl.refl _).alloc _).trans Tb_be
              have Tc_be := Tc_ri.trans Bbe
              have Uc_be : Bl wc wbe := ((Bl.refl _).alloc _).trans Tc_be
              have Tyz_be := Tyz_ri.trans Bbe
              have Uyz_be : Bl wyz wbe := ((Bl.refl _).alloc _).trans Tyz_be
              have Tle_be := Tle_ri.trans Bbe
              have Ule_be : Bl wle wbe := ((Bl.refl _).alloc _).trans Tle_be
              have Txy_be := Txy_ri.trans Bbe
              have Uxy_be : Bl wxy wbe := ((Bl.refl _).alloc _).trans Txy_be
              have Txz_be := Txz_ri.trans Bbe
              have Uxz_be : Bl wxz wbe := ((Bl.refl _).alloc _).trans Txz_be
              have Tri_be : Bl (wri.alloc _) wbe := hbe
              have Uri_be : Bl wri wbe := ((Bl.refl _).alloc _).trans Tri_be
              obtain ⟨x00, x01, x02, _, _, _, xl0⟩ := Ma.later Ta_be
              go_wp2_with fail
              refine (mul6_any (A := 100) (B := 100) m m E qa la ka _ qbe N kbe _ N _ (HXa.out.later (Ua_be.alloc _)) (HXbe.out.later ((Bl.refl _).alloc _)) HN.out SA.out SBE.out (by omega) (by omega) (by omega)).mono ?_
              rintro e won ⟨qon, kon, rfl, hx, hon⟩
              have HXon := hideP hx
              clear hx
              clear x00 x01 x02 xl0
              have Mon := MBox.new won m E qon N kon 27
              have Bon : Bl wbe won := ((Bl.refl _).alloc _).trans hon
              have Ta_on := Ta_be.trans Bon
              have Ua_on : Bl wa won := ((Bl.refl _).alloc _).trans Ta_on
              have Tb_on := Tb_be.trans Bon
              have Ub_on : Bl wb won := ((Bl.refl _).alloc _).trans Tb_on
              have Tc_on := Tc_be.trans Bon
              have Uc_on : Bl wc won := ((Bl.refl _).alloc _).trans Tc_on
              have Tyz_on := Tyz_be.trans Bon
              have Uyz_on : Bl wyz won := ((Bl.refl _).alloc _).trans Tyz_on
              have Tle_on := Tle_be.trans Bon
              have Ule_on : Bl wle won := ((Bl.refl _).alloc _).trans Tle_on
              have Txy_on := Txy_be.trans Bon
              have Uxy_on : Bl wxy won := ((Bl.refl _).alloc _).trans Txy_on
              have Txz_on := Txz_be.trans Bon
              have Uxz_on : Bl wxz won := ((Bl.refl _).alloc _).trans Txz_on
              have Tri_on := Tri_be.trans Bon
              have Uri_on : Bl wri won := ((Bl.refl _).alloc _).trans Tri_on
              have Tbe_on : Bl (wbe.alloc _) won := hon
              have Ube_on : Bl wbe won := ((Bl.refl _).alloc _).trans Tbe_on
              obtain ⟨x00, x01, x02, _, _, _, xl0⟩ := Mxy.later Txy_on
              obtain ⟨x10, x11, x12, _, _, _, xl1⟩ := Mxz.later Txz_on
              go_wp2_with fail
              refine (beside6_any m m m qxy la kxy _ qxz la kxz _ E N _ (HXxy.out.later (Uxy_on.alloc _)) (HXxz.out.later (Uxz_on.alloc _)) HE.out hE16 HN.out).mono ?_
              rintro e wtw ⟨qtw, ktw, rfl, hx, htw⟩
              have HXtw := hideP hx
              clear hx
              clear x00 x01 x02 xl0
              clear x10 x11 x12 xl1
              have Mtw := MBox.new wtw m E qtw N ktw 27
              have Btw : Bl won wtw := ((Bl.refl _).alloc _).trans htw
              have Ta_tw := Ta_on.trans Btw
              have Ua_tw : Bl wa wtw := ((Bl.refl _).alloc _).trans Ta_tw
              have Tb_tw := Tb_on.trans Btw
              have Ub_tw : Bl wb wtw := ((Bl.refl _).alloc _).trans Tb_tw
              have Tc_tw := Tc_on.trans Btw
              have Uc_tw : Bl wc wtw := ((Bl.refl _).alloc _).trans Tc_tw
              have Tyz_tw := Tyz_on.trans Btw
              have Uyz_tw : Bl wyz wtw := ((Bl.refl _).alloc _).trans Tyz_tw
              have Tle_tw := Tle_on.trans Btw
              have Ule_tw : Bl wle wtw := ((Bl.refl _).alloc _).trans Tle_tw
              have Txy_tw := Txy_on.trans Btw
              have Uxy_tw : Bl wxy wtw := ((Bl.refl _).alloc _).trans Txy_tw
              have Txz_tw := Txz_on.trans Btw
              have Uxz_tw : Bl wxz wtw := ((Bl.refl _).alloc _).trans Txz_tw
              have Tri_tw := Tri_on.trans Btw
              have Uri_tw : Bl wri wtw := ((Bl.refl _).alloc _).trans Tri_tw
              have Tbe_tw := Tbe_on.trans Btw
              have Ube_tw : Bl wbe wtw := ((Bl.refl _).alloc _).trans Tbe_tw
              have Ton_tw : Bl (won.alloc _) wtw := htw
              have Uon_tw : Bl won wtw := ((Bl.refl _).alloc _).trans Ton_tw
              obtain ⟨x00, x01, x02, _, _, _, xl0⟩ := Mle.later Tle_tw
              obtain ⟨x10, x11, x12, _, _, _, xl1⟩ := Mri.later Tri_tw
              go_wp2_with fail
              refine (alike6_any m m qle qri la kle kri _ _ _ (HXle.out.later (Ule_tw.alloc _)) (HXri.out.later (Uri_tw.alloc _)) (fun i k _ _ => mulI_add m fa fb fc i k)).mono ?_
              rintro e w8 ⟨rfl, h8⟩
              clear x00 x01 x02 x10 x11 x12 xl0 xl1
              obtain ⟨x00, x01, x02, _, _, _, xl0⟩ := (Mon.later Ton_tw).later (((Bl.refl _).alloc _).trans h8)
              obtain ⟨x10, x11, x12, _, _, _, xl1⟩ := Mtw.later h8
              go_wp2_with fail
              refine (alike6_any m E qon qtw N kon ktw _ _ _ (HXon.out.later ((Uon_tw.alloc _).trans h8)) (HXtw.out.later (((Bl.refl _).alloc _).trans h8)) (fun i k _ _ => mulI_beside m m fa fb fc i k)).mono ?_
              rintro e w9' ⟨rfl, h9'⟩
              clear x00 x01 x02 x10 x11 x12 xl0 xl1
              have hB : Bl w w9' := (((hBw.trans Uc_tw).alloc _).trans h8).trans h9'
              go_wp2_with fail
              refine (AW.out _).mono ?_
              rintro e w9 ⟨rfl, h9⟩
              go_wp2
              go_ret
              exact ⟨rfl, hB.trans h9⟩
end Go.Proofs.Ytokbmbgiimbkpaa

/- A slice of whole numbers as an argument: opened. -/
namespace Go.Proofs.Ytokbmbgiimbkpaa
open Go.ChangeShapes Go.WideShapes Go.ChangeAt Go.RowKit
set_option linter.unusedVariables false

theorem Try.cellsInt : Try.prog.cellsOf 3 = 1 := by kernel_rfl
theorem cell_block_lt {W : World} {b o : Nat} {v : Value} (h : W.cell? ⟨b, o, none⟩ = some v) : b < W.heap.size := by
  rcases Nat.lt_or_ge b W.heap.size with h' | h'
  · exact h'
  · have : W.heap[b]? = none := Array.getElem?_eq_none h'
    simp [World.cell?, this] at h
set_option maxRecDepth 1000000 in
theorem open_row {H : Type} {enc : TypeId × Value → H} {W : World} {b0 : Nat} {v : Value} {d : DataW H} {p : List MemPlace}
    (hv : Value.okWide Try.prog W .any b0 22 v) (h : DataW.Trod enc Try.prog W 0 (fun _ => true) true 22 v d p) : ∃ ns : List Int, Rq 1 cI W v ns ∧ ∀ n ∈ ns, (Lit.int .i64 n).wf = true := by
  obtain ⟨a0, len, cap, rfl⟩ := okWide_slice Try.underlying22 hv
  obtain ⟨fuel, hf⟩ := h
  rcases open_ints Try.underlying22 Try.underlying3 Try.cellsInt hf with ⟨hcs, hx⟩ | ⟨a, len', cap', zs, hcs, _, hl, hm, hz, hx, hcell, hwz⟩
  · simp [Value.cells] at hcs
    obtain ⟨rfl, rfl, rfl⟩ := hcs
    exact ⟨[], .inl ⟨none, 0, rfl, rfl, fun _ => rfl⟩, fun n hn => by simp at hn⟩
  · simp [Value.cells] at hcs
    obtain ⟨rfl, rfl, rfl⟩ := hcs
    simp only [if_true] at hz
    refine ⟨zs.take len, ?_, fun n hn => hwz n (List.mem_of_mem_take hn)⟩
    by_cases h0 : len = 0
    · subst h0
      exact .inl ⟨some a, cap, rfl, by simp, nofun⟩
    · have c0 := hcell 0 (by omega)
      obtain ⟨b, off, rfl, hc⟩ := ints_at hcell (by omega)
      have hb : b < W.heap.size := by
        have := hc 0 (by omega)
        exact cell_block_lt this
      have hll : (zs.take len).length = len := by simp; omega
      refine .inr ⟨b, off, cap, by rw [hll], by omega, hb, fun j x hj k u hu => ?_⟩
      rcases k with _ | k
      · simp at hu
        subst hu
        have hj2 := (List.getElem?_eq_some_iff.1 hj).1
        have := hc j (by omega)
        rw [List.getElem?_take] at hj
        split at hj
        · have e : zs.getD j 0 = x := by simp [List.getD, hj]
          rw [e] at this
          simpa using this
        · cases hj
      · simp at hu
end Go.Proofs.Ytokbmbgiimbkpaa

/- MatSpreads: a product with a sum is the sum of both products; with a row beside another one both products stand beside one another (of 4 by 4 at most, numbers from -100 up to 100). Conditions: none (every input). -/
namespace Go.Proofs.Ytokbmbgiimbkpaa
open Go.ChangeShapes Go.WideShapes Go.ChangeAt Go.RowKit
set_option linter.unusedVariables false

theorem own_MatSpreads : ownKnob Try.prog.godebug = none := by kernel_rfl
theorem laid_MatSpreads : laidOutB Try.prog = true := by kernel_rfl
set_option maxRecDepth 100000 in
theorem lifted_MatSpreads (os : Os) (started : os.Started) (H : Type) (enc : TypeId × Value → H) :
    ReturnsInHanded {} Try.checked os 9 .any (Rows.matSpreadsSpec.pre6 enc Try.prog Try.f9 Rows.matSpreadsRow.domain false) (Rows.matSpreadsSpec.post enc Try.prog Try.f9 false true false false) := by
  refine returnsInHanded_of_change (C := Try.checked) own_MatSpreads started (by kernel_rfl) Try.func9
    (ChangeSpec.witness6 (enc := enc) (C := Try.checked) false ⟨#[], #[.slice none 0 0, .slice none 0 0, .slice none 0 0, .int .i64 0], []⟩ 8 (by kernel_rfl) (by kernel_rfl) (by kernel_rfl) (by kernel_rfl)) ?_
  intro W base args ds gs before hval0 hW hcnd _
  have hval : ∀ (j : Nat) t v, Try.f9.params[j]? = some t → args[j]? = some v → Value.okWide Try.prog W .any base t v := hval0
  have hW' := hW
  obtain ⟨p, q, hA0, hV, rfl, hfz, hnd⟩ := hW
  have hA : DataW.TrodAll enc Try.prog W 0 (fun _ => true) true Try.f9.params.toList args.toList ds p := hA0
  rw [Try.params9] at hA hval
  obtain ⟨v0, vs0, d0, ds0, p0, q0, hargs, rfl, rfl, h0, r0⟩ := trodAll_cons hA
  obtain ⟨v1, vs1, d1, ds1, p1, q1, rfl, rfl, rfl, h1, r1⟩ := trodAll_cons r0
  obtain ⟨v2, vs2, d2, ds2, p2, q2, rfl, rfl, rfl, h2, r2⟩ := trodAll_cons r1
  obtain ⟨v3, vs3, d3, ds3, p3, q3, rfl, rfl, rfl, h3, r3⟩ := trodAll_cons r2
  obtain ⟨rfl, rfl, rfl⟩ := trodAll_nil r3
  obtain rfl : args = #[v0, v1, v2, v3] := by cases args; simp_all
  obtain ⟨rfl, rfl⟩ := trodVars_none hV
  have hltA := fun x hx => hW'.lt x hx
  obtain ⟨a0, R0, w0⟩ := open_row (hval 0 22 v0 rfl rfl) h0
  obtain ⟨a1, R1, w1⟩ := open_row (hval 1 22 v1 rfl rfl) h1
  obtain ⟨a2, R2, w2⟩ := open_row (hval 2 22 v2 rfl rfl) h2
  obtain ⟨a3, e3, _, _, w3⟩ := open_int Try.underlying3 (hval 3 3 v3 rfl rfl) h3
  subst e3
  clear hA0 hval0
  refine (walk_MatSpreads v0 a0 v1 a1 v2 a2 a3 W R0 R1 R2).mono fun e W' ⟨he, bel⟩ => ?_
  subst he
  exact ⟨_, rfl, _, _, _, [], _, [], hW', trodAll_mk1 (shut_bool Try.underlying4 _), (trodAll_cons_mk (Below.trod laid_MatSpreads (by kernel_rfl) (of_decide_eq_true (by kernel_rfl)) h0 bel (fun x hx => by have := hltA x (by simp [hx]); simpa using this)) (trodAll_cons_mk (Below.trod laid_MatSpreads (by kernel_rfl) (of_decide_eq_true (by kernel_rfl)) h1 bel (fun x hx => by have := hltA x (by simp [hx]); simpa using this)) (trodAll_cons_mk (Below.trod laid_MatSpreads (by kernel_rfl) (of_decide_eq_true (by kernel_rfl)) h2 bel (fun x hx => by have := hltA x (by simp [hx]); simpa using this)) (trodAll_cons_mk (Below.trod laid_MatSpreads (by kernel_rfl) (of_decide_eq_true (by kernel_rfl)) h3 bel (fun x hx => by have := hltA x (by simp [hx]); simpa using this)) trodAll_mk0)))), rfl, Below.frame bel _, fun h => by cases h⟩

theorem proved_MatSpreads : Rows.MatSpreadsSaid :=
  OpenClaim.holds_of_wide 9 Try.f9 rfl rfl rfl rfl rfl rfl rfl ⟨rfl, rfl, rfl, rfl, rfl⟩ rfl rfl rfl rfl rfl (by kernel_rfl) Try.func9 (by kernel_rfl)
    (of_decide_eq_true (by kernel_rfl)) (by unfold Func.isWrapper; first | (rw [if_pos (by decide +kernel)]; kernel_rfl) | (rw [if_neg (by decide +kernel)]; exact ⟨rfl, rfl⟩))
    (fun os started H enc _ => lifted_MatSpreads os started H enc)
#print axioms proved_MatSpreads
end Go.Proofs.Ytokbmbgiimbkpaa

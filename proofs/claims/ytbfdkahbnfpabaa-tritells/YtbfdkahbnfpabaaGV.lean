/- TriTells: cleared, squared, and its diagonal, a matrix of whole numbers is the document's; others are none (of 5 by 5 at most, numbers from -100 up to 100). Conditions: none (every input). -/
import Derived.Test.YtbfdkahbnfpabaaGU
import Derived.Test.YtbfdkahbnfpabaaVeI
import Derived.ProofKit
import Derived.OpenShut
import Derived.Carry
/- Squares of whole numbers, as fractions (layer 7): contract, mathematics. Written by genTw.py. -/
namespace Go.Proofs.Ytbfdkahbnfpabaa
open Go.RowKit
set_option linter.unusedSimpArgs false
set_option linter.unusedVariables false

theorem sqI_symm (n : Nat) (f : Nat → Nat → Int) (i k : Nat) : sqI n f i k = sqI n f k i := dotI_comm _ _
theorem sqI_mir (n : Nat) (f : Nat → Nat → Int) (i k : Nat) : sqI n f (max i k) (min i k) = sqI n f i k := by
  by_cases h : k ≤ i
  · rw [Nat.max_eq_left h, Nat.min_eq_right h]
  · rw [Nat.max_eq_right (by omega), Nat.min_eq_left (by omega), sqI_symm]
theorem sqI_nn : ∀ (n : Nat) (f : Nat → Nat → Int) (i : Nat), 0 ≤ sqI n f i i
  | 0, f, i => by show 0 ≤ mulI 0 f _ i i; rw [mulI_zero]; omega
  | n + 1, f, i => by
    show 0 ≤ mulI (n + 1) f _ i i
    rw [mulI_succ]
    have h1 := sqI_nn n f i
    have h2 : 0 ≤ f i n * f i n := by
      rcases Int.le_total 0 (f i n) with h | h
      · exact Int.mul_nonneg h h
      · exact Int.mul_nonneg_of_nonpos_of_nonpos h h
    show 0 ≤ sqI n f i i + f i n * f i n
    omega
theorem sq7_any (n : Nat) (p : Option Addr) (N cap : Nat) (s : Nat → Nat → Int) (w : World) (h : MxI w n n p N cap s) (hs : Sm2 100 n n s) :
    Calls Try.prog 11 #[mV n n p N cap] w fun e w' => ∃ p' cap', e = .returned (.tuple #[mV n n p' N cap', .bool true]) ∧ MxI w' n n p' N cap' (sqI n s) ∧ Bl w w' := by
  refine (tSqF n p N cap _ w h).mono ?_
  rintro e w' ⟨p', cap', rfl, ⟨hm, _⟩, hb⟩
  refine ⟨p', cap', rfl, hm.congr fun i k hi hk => ?_, hb⟩
  unfold mirM
  have e := mulM_it (a := s) (b := fun i k => s k i) (A := 100) (B := 100) (R := n) (M := n) (D := n) hs (fun i k hi hk => hs k i hk hi) h.1.r2 (by omega) (by omega) (by omega) (i := max i k) (k := min i k) (by omega) (by omega)
  refine e.trans ?_
  rw [show mulI n s (fun i k => s k i) (max i k) (min i k) = sqI n s (max i k) (min i k) from rfl, sqI_mir]
theorem sqI_bound {n : Nat} {s : Nat → Nat → Int} (hn : n ≤ 16) (hs : Sm2 100 n n s) {i k : Nat} (hi : i < n) (hk : k < n) : -160000 ≤ sqI n s i k ∧ sqI n s i k ≤ 160000 := by
  have := mulI_bound (A := 100) (B := 100) (R := n) (M := n) (D := n) (a := s) (b := fun i k => s k i) (by omega) (by omega) hs (fun i k hi hk => hs k i hk hi) hi hk n (Nat.le_refl _)
  unfold sqI
  constructor <;> omega
theorem sqI_mk {n : Nat} {s : Nat → Nat → Int} (hn : n ≤ 16) (hs : Sm2 100 n n s) : ∀ x ∈ mk n n (sqI n s), Wh x := fun x hx => by
  have := mk_sml (A := 160000) (fun i k hi hk => sqI_bound hn hs hi hk) x hx
  exact ⟨by omega, by omega⟩
theorem sign_nn {v : Int} (h : 0 ≤ v) : 0 ≤ signR (itF v) := by
  unfold signR
  split
  · show 0 ≤ cmpI v 0
    unfold cmpI
    split
    · omega
    · split <;> omega
  · omega
end Go.Proofs.Ytbfdkahbnfpabaa

/- Is, of what is no square; TriTells' closures; whether all above the diagonal is 0, row by row. Written by genTt.py. -/
namespace Go.Proofs.Ytbfdkahbnfpabaa
open Go.RowKit
set_option linter.unusedSimpArgs false
set_option linter.unusedVariables false

theorem tIsF_no (r c : Int) (p : Option Addr) (n cap K : Nat) (w : World) (hsq : sqB r c n = false) :
    Calls Try.prog 13 #[mV r c p n cap, .func (.func K) #[] #[]] w fun e w' => e = .returned (.bool false) ∧ Bl w w' := by
  obtain ⟨V, hV⟩ : ∃ V, V = ((w.alloc (.cells #[.int .i64 r, .int .i64 c, .slice p n cap] 27)).alloc (.cells #[.func (.func K) #[] #[]] 35)).alloc (.cells #[.bool false] 4) := ⟨_, rfl⟩
  have hBV : Bl w V := by rw [hV]; exact (((Bl.refl _).alloc _).alloc _).alloc _
  have br : Boxed V (w.heap.size + 1 + 1) 4 (.bool false) := by
    rw [hV]
    have := Boxed.new ((w.alloc (.cells #[.int .i64 r, .int .i64 c, .slice p n cap] 27)).alloc (.cells #[.func (.func K) #[] #[]] 35)) 4 (.bool false)
    simpa using this
  have HV := hideP hV
  clear hV
  go_enter Try.func13, Try.ntmps13
  go_wp2_with fail
  rw [← HV.out]
  refine (tSquareF _ _ _ _ _ _).mono ?_
  rintro e w1 ⟨rfl, h1⟩
  rw [hsq]
  have br1 := boxed_bl br h1
  have bc := br1.cell
  have fc := br1.frozen
  go_wp2
  simp [bodyPost, results, Try.results13, go_sem, bc]
  exact (hBV.trans h1).set (p := ⟨w.heap.size + 1 + 1, 0, none⟩) (by simp; omega) _
theorem yes1_any (x : Fr) (w : World) : Calls Try.prog 14 #[frV x] w fun e w' => e = .returned (.bool true) ∧ Bl w w' := by
  go_enter Try.func14, Try.ntmps14
  go_wp2
  go_ret
  exact ⟨rfl, (Bl.refl _).alloc _⟩
theorem zero2_any (x : Fr) (w : World) : Calls Try.prog 17 #[frV x] w fun e w' => e = .returned (.bool (zeroN x)) ∧ Bl w w' := by
  unfold zeroN
  go_enter Try.func17, Try.ntmps17
  go_wp2
  go_ret
  exact ⟨rfl, (Bl.refl _).alloc _⟩
/-- Whether what is right of the diagonal is 0, ahead of column k; in the first rows. -/
def rowB7 (f : Nat → Nat → Int) (i k : Nat) : Bool := (List.range k).all fun t => decide (t ≤ i) || (f i t == 0)
def lowB7 (f : Nat → Nat → Int) (n j : Nat) : Bool := (List.range j).all fun i => rowB7 f i n
theorem rowB7_start (f : Nat → Nat → Int) (i : Nat) : rowB7 f i (i + 1) = true := by
  unfold rowB7
  rw [List.all_eq_true]
  intro t ht
  rw [Bool.or_eq_true]
  exact .inl (by have := List.mem_range.1 ht; simp; omega)
theorem rowB7_succ (f : Nat → Nat → Int) {i k : Nat} (h : i < k) : rowB7 f i (k + 1) = (rowB7 f i k && (f i k == 0)) := by
  unfold rowB7
  rw [List.range_succ, List.all_append]
  have : decide (k ≤ i) = false := by simp; omega
  simp [this]
theorem lowB7_succ (f : Nat → Nat → Int) (n j : Nat) : lowB7 f n (j + 1) = (lowB7 f n j && rowB7 f j n) := by
  unfold lowB7
  rw [List.range_succ, List.all_append]
  simp
theorem lowB7_above (f : Nat → Nat → Int) (n : Nat) : aboveB n (fun i k => itF (f i k)) zeroN = lowB7 f n n := rfl
theorem clrF_it (f : Nat → Nat → Int) (i k : Nat) : clrF (fun i k => itF (f i k)) i k = itF (clrI f i k) := by
  unfold clrF clrI
  split <;> rfl
end Go.Proofs.Ytbfdkahbnfpabaa

/- The walk of TriTells. Written by genTt.py. -/
namespace Go.Proofs.Ytbfdkahbnfpabaa
open Go.RowKit
set_option linter.unusedSimpArgs false
set_option linter.unusedVariables false

set_option maxRecDepth 100000 in
set_option maxHeartbeats 4000000 in
theorem walk_TriTells (va : Value) (xa : List Int) (rows cols : Int) (w : World) (ha : Rq 1 cI w va xa) :
    Calls Try.prog 3 #[va, .int .i64 rows, .int .i64 cols] w fun e w' => e = .returned (.bool true) ∧ Bl w w' := by
  have AW := hideP awake7_any
  have F1 := hideP (few6_any va xa w ha)
  obtain ⟨pa, ca, rfl, _, _⟩ := ha.cut
  obtain ⟨la, hla⟩ : ∃ la, la = xa.length := ⟨_, rfl⟩
  rw [← hla] at F1 ha ⊢
  have HA := hideP ha
  have HLA := hideP hla
  clear ha hla
  go_enter Try.func3, Try.ntmps3
  go_wp2_with fail
  refine F1.out.mono ?_
  rintro e w1 ⟨b1, rfl, hb1, rfl⟩
  clear F1
  cases b1 with
  | false =>
    go_wp2_with fail
    refine (AW.out _).mono ?_
    rintro e w9 ⟨rfl, h9⟩
    go_wp2
    go_ret
    exact ⟨rfl, (Bl.refl _).trans h9⟩
  | true =>
    obtain ⟨l1, s1⟩ := hb1 rfl
    have S1 := hideP s1
    clear hb1 s1
    cases hf1 : fitB rows cols la with
    | false =>
      go_wp2_with fail
      refine (mWholeF_no _ _ _ _ _ _ hf1).mono ?_
      rintro e w2 ⟨rfl, h2⟩
      have m2 := MBox.new w2 (0) (0) none 0 0 27
      obtain ⟨x0, x1, x2, _, _, _, lt2⟩ := id m2
      go_wp2_with fail
      refine (tClearF_no _ _ _ _ _ _ (show sqB 0 0 0 = false by decide)).mono ?_
      rintro e w3 ⟨rfl, h3⟩
      have m3 := MBox.new w3 0 0 none 0 0 27
      have b23 : Bl w2 w3 := ((Bl.refl _).alloc _).trans h3
      clear x0 x1 x2
      obtain ⟨x0, x1, x2, _, _, _, lt3⟩ := m2.later h3
      go_wp2_with fail
      refine (tSqF_no _ _ _ _ _ _ (show sqB 0 0 0 = false by decide)).mono ?_
      rintro e w4 ⟨rfl, h4⟩
      have m4 := MBox.new w4 0 0 none 0 0 27
      have b34 : Bl w3 w4 := ((Bl.refl _).alloc _).trans h4
      clear x0 x1 x2
      obtain ⟨x0, x1, x2, _, _, _, lt4⟩ := (m2.later h3).later b34
      go_wp2_with fail
      refine (tDiagF_no _ _ _ _ _ _ (show sqB 0 0 0 = false by decide)).mono ?_
      rintro e w5 ⟨rfl, h5⟩
      have b45 : Bl w4 w5 := ((Bl.refl _).alloc _).trans h5
      clear x0 x1 x2
      obtain ⟨x0, x1, x2, _, _, _, lt5⟩ := ((m2.later h3).later b34).later b45
      go_wp2_with fail
      refine (tIsF_no _ _ _ _ _ 14 _ (show sqB 0 0 0 = false by decide)).mono ?_
      rintro e w6 ⟨rfl, h6⟩
      clear x0 x1 x2
      obtain ⟨x0, x1, x2, _, _, _, lt6⟩ := (m3.later h4).later (b45.trans h6)
      go_wp2_with fail
      refine (same6_any 0 0 none 0 0 none 0 [] _ (.inl ⟨_, _, rfl, rfl, fun _ => rfl⟩) (.inl ⟨_, _, rfl, rfl, fun _ => rfl⟩) rfl (fun x hx => by simp at hx) (by omega)).mono ?_
      rintro e w7 ⟨rfl, h7⟩
      clear x0 x1 x2
      obtain ⟨x0, x1, x2, _, _, _, lt7⟩ := m4.later (h5.trans (h6.trans h7))
      go_wp2_with fail
      refine (same6_any 0 0 none 0 0 none 0 [] _ (.inl ⟨_, _, rfl, rfl, fun _ => rfl⟩) (.inl ⟨_, _, rfl, rfl, fun _ => rfl⟩) rfl (fun x hx => by simp at hx) (by omega)).mono ?_
      rintro e w8 ⟨rfl, h8⟩
      clear x0 x1 x2
      go_wp2_with fail
      refine (AW.out _).mono ?_
      rintro e w9 ⟨rfl, h9⟩
      go_wp2
      go_ret
      exact ⟨rfl, (((h2.trans b23).trans b34).trans b45).trans (h6.trans (h7.trans (h8.trans h9)))⟩
    | true =>
      obtain ⟨R, C, rfl, rfl, hdR, hnR⟩ := fitB_nat hf1
      have WH := hideP (fun u (hu : Bl w1 u) => whole6_call R C pa la ca xa u (HA.out.later hu) hf1 (by rw [← HLA.out]) S1.out)
      have HDR := hideP hdR
      have HNR := hideP hnR
      have hR16 := hdR.r2
      have hC16 := hdR.c2
      have hR1 := hdR.r1
      clear hf1 hdR hnR
      by_cases hRC : R = C
      · subst hRC
        have SMA := hideP (ofL_sml (R := R) (M := R) (by rw [← HLA.out]; exact HNR.out) S1.out)
        obtain ⟨fa, hfa⟩ : ∃ fa, fa = ofL R xa := ⟨_, rfl⟩
        rw [← hfa] at SMA
        have HFA := hideP hfa
        clear hfa
        go_wp2_with fail
        refine (WH.out _ (Bl.refl _)).mono ?_
        rintro e w2 ⟨p1, c1, rfl, hx, h2⟩
        rw [← HFA.out] at hx
        have HX := hideP hx
        clear hx WH
        obtain ⟨W2, hW2⟩ : ∃ W2, W2 = w2.alloc (.cells #[.int .i64 R, .int .i64 R, .slice p1 la c1] 27) := ⟨_, rfl⟩
        have b2 : Bl w2 W2 := by rw [hW2]; exact (Bl.refl _).alloc _
        have k2 := MBox.new w2 R R p1 la c1 27
        rw [← hW2] at k2
        go_wp2_with fail
        rw [← hW2]
        have HW2 := hideP hW2
        clear hW2
        refine (tClearF R p1 la c1 _ W2 (HX.out.later b2)).mono ?_
        rintro e w3 ⟨p3, c3, rfl, ⟨hc, _⟩, h3⟩
        have HC := hideP (show MxI w3 R R p3 la c3 (clrI fa) from hc.congr fun i k _ _ => clrF_it fa i k)
        clear hc
        obtain ⟨W3, hW3⟩ : ∃ W3, W3 = w3.alloc (.cells #[.int .i64 R, .int .i64 R, .slice p3 la c3] 27) := ⟨_, rfl⟩
        have b3 : Bl w3 W3 := by rw [hW3]; exact (Bl.refl _).alloc _
        have k3 := MBox.new w3 R R p3 la c3 27
        rw [← hW3] at k3
        obtain ⟨x0, x1, x2, _, _, _, lt3⟩ := k2.later (h3.trans b3)
        rw [hW3] at x0 x1 x2
        go_wp2_with fail
        rw [← hW3]
        have HW3 := hideP hW3
        clear hW3 x0 x1 x2
        refine (sq7_any R p1 la c1 fa W3 (HX.out.later (b2.trans (h3.trans b3))) SMA.out).mono ?_
        rintro e w4 ⟨p4, c4, rfl, hs, h4⟩
        have HS := hideP hs
        clear hs
        obtain ⟨W4, hW4⟩ : ∃ W4, W4 = w4.alloc (.cells #[.int .i64 R, .int .i64 R, .slice p4 la c4] 27) := ⟨_, rfl⟩
        have b4 : Bl w4 W4 := by rw [hW4]; exact (Bl.refl _).alloc _
        have k4 := MBox.new w4 R R p4 la c4 27
        rw [← hW4] at k4
        obtain ⟨x0, x1, x2, _, _, _, lt4⟩ := k2.later (h3.trans (b3.trans (h4.trans b4)))
        rw [hW4] at x0 x1 x2
        go_wp2_with fail
        rw [← hW4]
        have HW4 := hideP hW4
        clear hW4 x0 x1 x2
        have b24 : Bl W2 W4 := h3.trans (b3.trans (h4.trans b4))
        refine (tDiagF R p1 la c1 _ W4 (HX.out.later (b2.trans b24))).mono ?_
        rintro e w5 ⟨q5, c5, rfl, hr5, h5⟩
        have HR5 := hideP (rq_cells hr5.q)
        clear hr5
        have hB5 : Bl w1 w5 := (h2.trans (b2.trans (b24.trans h5)))
        have k25 := k2.later (b24.trans h5)
        have k35 := k3.later (h4.trans (b4.trans h5))
        have k45 := k4.later h5
        have HX5 := hideP (HX.out.later (b2.trans (b24.trans h5)))
        have HC5 := hideP (HC.out.later (b3.trans (h4.trans (b4.trans h5))))
        have HS5 := hideP (HS.out.later (b4.trans h5))
        clear HX HC HS k2 k3 k4 b24 h3 h4 h5 b2 b3 b4 h2
        by_cases h5R : R ≤ 5
        · have h5R' : ¬ ((R : Int) > 5) := by omega
          obtain ⟨g, o, hpa, CL⟩ : ∃ g o, pa = some ⟨g, o, none⟩ ∧ ∀ i k, i < R → k < R → ∀ u, Bl w5 u → u.cell? ⟨g, o + (i * R + k), none⟩ = some (.int .i64 (fa i k)) := by
            have h0 := ofL_get (R := R) (M := R) (ns := xa) (by rw [← HLA.out]; exact HNR.out) (show 0 < R by omega) (show 0 < R by omega)
            rcases HA.out with ⟨_, _, _, hn, _⟩ | ⟨b, o, cc, e, _, hlt, HXX⟩
            · rw [hn] at h0; simp at h0
            · cases e
              refine ⟨b, o, rfl, fun i k hi hk u hu => ?_⟩
              have hg := ofL_get (R := R) (M := R) (ns := xa) (by rw [← HLA.out]; exact HNR.out) hi hk
              rw [HFA.out]
              exact (bl_cell (hB5.trans hu) _ _ hlt).trans (cellI HXX hg (wr := w1))
          subst hpa
          have HCL := hideP CL
          have hd := HDR.out
          have hla25 : la ≤ 25 := by rw [HNR.out]; exact Nat.mul_le_mul h5R h5R
          clear CL
          go_wp2_with fail
          go_loopw [14, 83] (fun lv v wr => ∃ j : Nat, v = .int .i64 j ∧ j ≤ R ∧ lv = .bool (lowB7 fa R j) ∧ Bl w5 wr) (fun _ v _ => R - (intOf v).toNat)
          case atStart => exact ⟨0, rfl, Nat.zero_le _, rfl, Bl.refl _⟩
          case round =>
            obtain ⟨j, rfl, hj, rfl, bl⟩ := hrel
            by_cases hlt : j < R
            · obtain ⟨x, hx⟩ : ∃ x, x = itF (fa j j) := ⟨_, rfl⟩
              obtain ⟨b, ob, rfl, CX⟩ := HR5.out j x (by rw [hx]; simp [hlt])
              obtain ⟨a1, q1, e1, e2, hq1, hq3, hq5, hq6⟩ := place hd hlt hlt
              have CY := HCL.out j j hlt hlt
              rw [← e2] at CY
              rw [← HNR.out] at hq5
              obtain ⟨y, hy⟩ : ∃ y, y = fa j j := ⟨_, rfl⟩
              rw [← hy] at CY hx
              have hwy : Wh y := by have := SMA.out j j hlt hlt; rw [← hy] at this; exact ⟨by omega, by omega⟩
              have z0 := fun z : Wl wr => (CX z.w (bl.trans z.bl)).1
              have z1 := fun z : Wl wr => (CX z.w (bl.trans z.bl)).2.1
              have z2 := fun z : Wl wr => (CX z.w (bl.trans z.bl)).2.2
              have y0 := fun z : Wl wr => CY z.w (bl.trans z.bl)
              have NW := hideP (fun z : Wl wr => by have := new_few hwy z.w; rw [← hx] at this; exact this)
              have wne := wl_ne wr
              have ne1 := neq_selfV x
              clear CX CY hx hy hwy e1 e2
              obtain ⟨lb, hlb⟩ : ∃ lb, lb = lowB7 fa R j := ⟨_, rfl⟩
              rw [← hlb]
              have HLB := hideP hlb
              clear hlb
              go_wp2_with fail
              refine wl_region wr (Bl.refl _) (by kernel_rfl) (by kernel_rfl) ?_
              repeat (go_big_quiet_step (first | (go_at_call 16; exact wl_call (NW.out _))))
              refine wpQuiet_nil ?_
              intro _ hw'
              obtain ⟨z, hw''⟩ := hw'
              subst hw''
              clear wne z0 z1 z2 y0 ne1 NW hq1 hq3 hq5 hq6
              obtain ⟨w6, h6⟩ := z
              dsimp only
              have b6 := bl.trans h6
              go_wp2_with fail
              go_loopw [14, 16] (fun lv v wr' => ∃ k : Nat, v = .int .i64 k ∧ j < k ∧ k ≤ R ∧ lv = .bool (lb && rowB7 fa j k) ∧ Bl w6 wr') (fun _ v _ => R - (intOf v).toNat)
              case atStart => exact ⟨j + 1, by simp, by omega, hlt, by rw [rowB7_start, Bool.and_true], Bl.refl _⟩
              case round =>
                obtain ⟨k, rfl, hjk, hk, rfl, bl2⟩ := hrel
                by_cases hlt2 : k < R
                · have HRS := hideP (rowB7_succ fa hjk)
                  obtain ⟨a1, q1, e1, e2, hq1, hq3, hq5, hq6⟩ := place hd hlt hlt2
                  have cy := HCL.out j k hlt hlt2 wr (b6.trans bl2)
                  rw [← e2] at cy
                  rw [← HNR.out] at hq5
                  obtain ⟨y, hy⟩ : ∃ y, y = fa j k := ⟨_, rfl⟩
                  rw [← hy] at cy HRS
                  clear e1 e2 hy
                  cases hbb : (lb && rowB7 fa j k) with
                  | false =>
                    go_wp2
                    go_roundw
                    case rel => exact ⟨k + 1, by simp, by omega, hlt2, by rw [HRS.out, ← Bool.and_assoc, hbb, Bool.false_and], bl2⟩
                    case measure => simp [intOf]; omega
                  | true =>
                    go_wp2
                    go_roundw
                    case rel => exact ⟨k + 1, by simp, by omega, hlt2, by rw [HRS.out, ← Bool.and_assoc, hbb, Bool.true_and], bl2⟩
                    case measure => simp [intOf]; omega
                · obtain rfl : k = R := by omega
                  have HLS := hideP (lowB7_succ fa k j)
                  go_wp2_with fail
                  go_roundw
                  case rel => exact ⟨j + 1, by simp, hlt, by rw [HLS.out, ← HLB.out], b6.trans bl2⟩
                  case measure => simp [intOf]; omega
            · obtain rfl : j = R := by omega
              obtain ⟨lb, hlb⟩ : ∃ lb, lb = lowB7 fa j j := ⟨_, rfl⟩
              rw [← hlb]
              have HLB := hideP hlb
              clear hlb
              have kz2 := k25.later bl
              have kz3 := k35.later bl
              have kz4 := k45.later bl
              have hx9 := HX5.out.later bl
              have hc9 := HC5.out.later bl
              have hs9 := HS5.out.later bl
              have hla2 : xa.length = j * j := by rw [← HLA.out]; exact HNR.out
              have sm9 : Sm2 100 j j (clrI fa) := clrI_sm (by omega) SMA.out
              have SC := hideP (fun (u : World) (hu : Bl wr u) => (ref7Clear_any (some ⟨g, o, none⟩) la ca xa j u hd (HA.out.later (hB5.trans (bl.trans hu))) hla2 HNR.out).mono (R' := fun e w' => ∃ q c, e = .returned (.slice q la c) ∧ (∀ u', Bl w' u' → Calls Try.prog 15 #[mV j j p3 la c3, .int .i64 j, .int .i64 j, .slice q la c] u' fun e w3 => e = .returned (.bool true) ∧ Bl u' w3) ∧ Bl u w') (by
                rintro e w' ⟨q, c, rfl, hr, hb⟩
                rw [← HNR.out, ← HFA.out] at hr
                rw [← HNR.out]
                refine ⟨q, c, rfl, fun u' hu' => ?_, hb⟩
                exact same6_any j j p3 la c3 q c (mk j j (clrI fa)) u' (mxI_rq (hc9.later (hu.trans (hb.trans hu')))) (hr.later hu').q (by rw [mk_len, HNR.out]) (fun x hx => by have := mk_sml sm9 x hx; exact ⟨by omega, by omega⟩) (by omega)))
              have SQ := hideP (fun (u : World) (hu : Bl wr u) => (ref7Square_any (some ⟨g, o, none⟩) la ca xa j u hd (HA.out.later (hB5.trans (bl.trans hu))) hla2 HNR.out S1.out).mono (R' := fun e w' => ∃ q c, e = .returned (.slice q la c) ∧ (∀ u', Bl w' u' → Calls Try.prog 15 #[mV j j p4 la c4, .int .i64 j, .int .i64 j, .slice q la c] u' fun e w3 => e = .returned (.bool true) ∧ Bl u' w3) ∧ Bl u w') (by
                rintro e w' ⟨q, c, rfl, hr, hb⟩
                rw [← HNR.out, ← HFA.out] at hr
                rw [← HNR.out]
                refine ⟨q, c, rfl, fun u' hu' => ?_, hb⟩
                exact same6_any j j p4 la c4 q c (mk j j (sqI j fa)) u' (mxI_rq (hs9.later (hu.trans (hb.trans hu')))) (hr.later hu').q (by rw [mk_len, HNR.out]) (sqI_mk (by omega) SMA.out) (by omega)))
              have IM := hideP (fun (u : World) (hu : Bl wr u) => by
                have := tIsF j p1 la c1 _ 17 zeroN u (hx9.later hu) (enters_of Try.func17 (by kernel_rfl) rfl) (fun x u _ => zero2_any x u)
                rw [lowB7_above, ← HLB.out] at this
                exact this)
              have IC := hideP (fun (u : World) (hu : Bl wr u) => by
                have := tIsF j p3 la c3 _ 17 zeroN u (hc9.later hu) (enters_of Try.func17 (by kernel_rfl) rfl) (fun x u _ => zero2_any x u)
                rw [aboveB_low (clrI_low fa)] at this
                exact this)
              have KP := hideP (fun (u : World) (hu : Bl wr u) => (show u.cell? ⟨w3.heap.size, 0, none⟩ = some (.int .i64 j) ∧ u.cell? ⟨w3.heap.size, 1, none⟩ = some (.int .i64 j) ∧ u.cell? ⟨w3.heap.size, 2, none⟩ = some (.slice p3 la c3) ∧ u.cell? ⟨w4.heap.size, 0, none⟩ = some (.int .i64 j) ∧ u.cell? ⟨w4.heap.size, 1, none⟩ = some (.int .i64 j) ∧ u.cell? ⟨w4.heap.size, 2, none⟩ = some (.slice p4 la c4) ∧ u.cell? ⟨w2.heap.size, 0, none⟩ = some (.int .i64 j) ∧ u.cell? ⟨w2.heap.size, 1, none⟩ = some (.int .i64 j) ∧ u.cell? ⟨w2.heap.size, 2, none⟩ = some (.slice p1 la c1) ∧ Bl wr u from
                ⟨(kz3.later hu).c0, (kz3.later hu).c1, (kz3.later hu).c2, (kz4.later hu).c0, (kz4.later hu).c1, (kz4.later hu).c2, (kz2.later hu).c0, (kz2.later hu).c1, (kz2.later hu).c2, hu⟩))
              clear kz2 kz3 kz4 hx9 hc9 hs9 hla2 sm9 k25 k35 k45 HX5 HC5 HS5 HCL HR5 hd
              go_wp2_with fail
              go_region_held3 (fun u => u.cell? ⟨w3.heap.size, 0, none⟩ = some (.int .i64 j) ∧ u.cell? ⟨w3.heap.size, 1, none⟩ = some (.int .i64 j) ∧ u.cell? ⟨w3.heap.size, 2, none⟩ = some (.slice p3 la c3) ∧ u.cell? ⟨w4.heap.size, 0, none⟩ = some (.int .i64 j) ∧ u.cell? ⟨w4.heap.size, 1, none⟩ = some (.int .i64 j) ∧ u.cell? ⟨w4.heap.size, 2, none⟩ = some (.slice p4 la c4) ∧ u.cell? ⟨w2.heap.size, 0, none⟩ = some (.int .i64 j) ∧ u.cell? ⟨w2.heap.size, 1, none⟩ = some (.int .i64 j) ∧ u.cell? ⟨w2.heap.size, 2, none⟩ = some (.slice p1 la c1) ∧ Bl wr u) (exact KP.out _ (by repeat (first | exact Bl.refl _ | assumption | apply Bl.drew | apply Bl.alloc | (refine Bl.trans ?_ (by assumption)))))
                (first
                  | (go_at_call 18; refine (SC.out _ (by repeat (first | exact Bl.refl _ | assumption | apply Bl.drew | apply Bl.alloc | (refine Bl.trans ?_ (by assumption))))).mono ?_; rintro e w' ⟨qt, ct, rfl, hal, hbt⟩; have Hsc := hideP hal; clear hal)
                  | (go_at_call_of 15 (Value.slice p3 la c3); refine (Hsc.out _ (by repeat (first | exact Bl.refl _ | assumption | apply Bl.drew | apply Bl.alloc | (refine Bl.trans ?_ (by assumption))))).mono ?_; rintro e w' ⟨rfl, hba⟩)
                  | (go_at_call 19; refine (SQ.out _ (by repeat (first | exact Bl.refl _ | assumption | apply Bl.drew | apply Bl.alloc | (refine Bl.trans ?_ (by assumption))))).mono ?_; rintro e w' ⟨qu, cu, rfl, hmu, hbu⟩; have Hsq := hideP hmu; clear hmu)
                  | (go_at_call_of 15 (Value.slice p4 la c4); refine (Hsq.out _ (by repeat (first | exact Bl.refl _ | assumption | apply Bl.drew | apply Bl.alloc | (refine Bl.trans ?_ (by assumption))))).mono ?_; rintro e w' ⟨rfl, hbs⟩)
                  | (go_at_call_of 13 (Value.slice p1 la c1); refine (IM.out _ (by repeat (first | exact Bl.refl _ | assumption | apply Bl.drew | apply Bl.alloc | (refine Bl.trans ?_ (by assumption))))).mono ?_; rintro e w' ⟨rfl, hbi⟩)
                  | (go_at_call_of 13 (Value.slice p3 la c3); refine (IC.out _ (by repeat (first | exact Bl.refl _ | assumption | apply Bl.drew | apply Bl.alloc | (refine Bl.trans ?_ (by assumption))))).mono ?_; rintro e w' ⟨rfl, hbj⟩)
                  | (go_at_call 8; refine (AW.out _).mono ?_; rintro e w' ⟨rfl, hbw⟩))
              all_goals
                rename_i hh
                obtain ⟨_, _, _, _, _, _, _, _, _, hBV⟩ := hh
                go_wp2
                go_ret
                exact ⟨rfl, hB5.trans (bl.trans hBV)⟩
        · have h5R' : (R : Int) > 5 := by omega
          go_wp2_with fail
          refine (AW.out _).mono ?_
          rintro e w9 ⟨rfl, h9⟩
          go_wp2
          go_ret
          exact ⟨rfl, hB5.trans h9⟩
      · have hsq : sqB R C la = false := by unfold sqB; rw [Bool.and_eq_false_iff]; right; simp; omega
        have hne : ((R : Int) != (C : Int)) = true := by simp; omega
        go_wp2_with fail
        refine (WH.out _ (Bl.refl _)).mono ?_
        rintro e w2 ⟨p1, c1, rfl, hx, h2⟩
        clear hx WH
        have m2 := MBox.new w2 (R) (C) p1 la c1 27
        obtain ⟨x0, x1, x2, _, _, _, lt2⟩ := id m2
        go_wp2_with fail
        refine (tClearF_no _ _ _ _ _ _ hsq).mono ?_
        rintro e w3 ⟨rfl, h3⟩
        have m3 := MBox.new w3 0 0 none 0 0 27
        have b23 : Bl w2 w3 := ((Bl.refl _).alloc _).trans h3
        clear x0 x1 x2
        obtain ⟨x0, x1, x2, _, _, _, lt3⟩ := m2.later h3
        go_wp2_with fail
        refine (tSqF_no _ _ _ _ _ _ hsq).mono ?_
        rintro e w4 ⟨rfl, h4⟩
        have m4 := MBox.new w4 0 0 none 0 0 27
        have b34 : Bl w3 w4 := ((Bl.refl _).alloc _).trans h4
        clear x0 x1 x2
        obtain ⟨x0, x1, x2, _, _, _, lt4⟩ := (m2.later h3).later b34
        go_wp2_with fail
        refine (tDiagF_no _ _ _ _ _ _ hsq).mono ?_
        rintro e w5 ⟨rfl, h5⟩
        have b45 : Bl w4 w5 := ((Bl.refl _).alloc _).trans h5
        clear x0 x1 x2
        obtain ⟨x0, x1, x2, _, _, _, lt5⟩ := ((m2.later h3).later b34).later b45
        go_wp2_with fail
        refine (tIsF_no _ _ _ _ _ 14 _ hsq).mono ?_
        rintro e w6 ⟨rfl, h6⟩
        clear x0 x1 x2
        obtain ⟨x0, x1, x2, _, _, _, lt6⟩ := (m3.later h4).later (b45.trans h6)
        go_wp2_with fail
        refine (same6_any 0 0 none 0 0 none 0 [] _ (.inl ⟨_, _, rfl, rfl, fun _ => rfl⟩) (.inl ⟨_, _, rfl, rfl, fun _ => rfl⟩) rfl (fun x hx => by simp at hx) (by omega)).mono ?_
        rintro e w7 ⟨rfl, h7⟩
        clear x0 x1 x2
        obtain ⟨x0, x1, x2, _, _, _, lt7⟩ := m4.later (h5.trans (h6.trans h7))
        go_wp2_with fail
        refine (same6_any 0 0 none 0 0 none 0 [] _ (.inl ⟨_, _, rfl, rfl, fun _ => rfl⟩) (.inl ⟨_, _, rfl, rfl, fun _ => rfl⟩) rfl (fun x hx => by simp at hx) (by omega)).mono ?_
        rintro e w8 ⟨rfl, h8⟩
        clear x0 x1 x2
        go_wp2_with fail
        refine (AW.out _).mono ?_
        rintro e w9 ⟨rfl, h9⟩
        go_wp2
        go_ret
        exact ⟨rfl, (((h2.trans b23).trans b34).trans b45).trans (h6.trans (h7.trans (h8.trans h9)))⟩
end Go.Proofs.Ytbfdkahbnfpabaa

/- A slice of whole numbers as an argument: opened. -/
namespace Go.Proofs.Ytbfdkahbnfpabaa
open Go.ChangeShapes Go.WideShapes Go.ChangeAt Go.RowKit
set_option linter.unusedVariables false

theorem Try.cellsInt : Try.prog.cellsOf 3 = 1 := by kernel_rfl
theorem cell_block_lt {W : World} {b o : Nat} {v : Value} (h : W.cell? ⟨b, o, none⟩ = some v) : b < W.heap.size := by
  rcases Nat.lt_or_ge b W.heap.size with h' | h'
  · exact h'
  · have : W.heap[b]? = none := Array.getElem?_eq_none h'
    simp [World.cell?, this] at h
set_option maxRecDepth 1000000 in
theorem open_row {H : Type} {enc : TypeId × Value → H} {W : World} {b0 : Nat} {v : Value} {d : DataW H} {p : List MemPlace}
    (hv : Value.okWide Try.prog W .any b0 22 v) (h : DataW.Trod enc Try.prog W 0 (fun _ => true) true 22 v d p) : ∃ ns : List Int, Rq 1 cI W v ns ∧ ∀ n ∈ ns, (Lit.int .i64 n).wf = true := by
  obtain ⟨a0, len, cap, rfl⟩ := okWide_slice Try.underlying22 hv
  obtain ⟨fuel, hf⟩ := h
  rcases open_ints Try.underlying22 Try.underlying3 Try.cellsInt hf with ⟨hcs, hx⟩ | ⟨a, len', cap', zs, hcs, _, hl, hm, hz, hx, hcell, hwz⟩
  · simp [Value.cells] at hcs
    obtain ⟨rfl, rfl, rfl⟩ := hcs
    exact ⟨[], .inl ⟨none, 0, rfl, rfl, fun _ => rfl⟩, fun n hn => by simp at hn⟩
  · simp [Value.cells] at hcs
    obtain ⟨rfl, rfl, rfl⟩ := hcs
    simp only [if_true] at hz
    refine ⟨zs.take len, ?_, fun n hn => hwz n (List.mem_of_mem_take hn)⟩
    by_cases h0 : len = 0
    · subst h0
      exact .inl ⟨some a, cap, rfl, by simp, nofun⟩
    · have c0 := hcell 0 (by omega)
      obtain ⟨b, off, rfl, hc⟩ := ints_at hcell (by omega)
      have hb : b < W.heap.size := by
        have := hc 0 (by omega)
        exact cell_block_lt this
      have hll : (zs.take len).length = len := by simp; omega
      refine .inr ⟨b, off, cap, by rw [hll], by omega, hb, fun j x hj k u hu => ?_⟩
      rcases k with _ | k
      · simp at hu
        subst hu
        have hj2 := (List.getElem?_eq_some_iff.1 hj).1
        have := hc j (by omega)
        rw [List.getElem?_take] at hj
        split at hj
        · have e : zs.getD j 0 = x := by simp [List.getD, hj]
          rw [e] at this
          simpa using this
        · cases hj
      · simp at hu
end Go.Proofs.Ytbfdkahbnfpabaa

/- TriTells: cleared, squared, and its diagonal, a matrix of whole numbers is the document's; others are none (of 5 by 5 at most, numbers from -100 up to 100). Conditions: none (every input). -/
namespace Go.Proofs.Ytbfdkahbnfpabaa
open Go.ChangeShapes Go.WideShapes Go.ChangeAt Go.RowKit
set_option linter.unusedVariables false

theorem own_TriTells : ownKnob Try.prog.godebug = none := by kernel_rfl
theorem laid_TriTells : laidOutB Try.prog = true := by kernel_rfl
set_option maxRecDepth 100000 in
theorem lifted_TriTells (os : Os) (started : os.Started) (H : Type) (enc : TypeId × Value → H) :
    ReturnsInHanded {} Try.checked os 3 .any (Rows.triTellsSpec.pre6 enc Try.prog Try.f3 Rows.triTellsRow.domain false) (Rows.triTellsSpec.post enc Try.prog Try.f3 false true false false) := by
  refine returnsInHanded_of_change (C := Try.checked) own_TriTells started (by kernel_rfl) Try.func3
    (ChangeSpec.witness6 (enc := enc) (C := Try.checked) false ⟨#[], #[.slice none 0 0, .int .i64 0, .int .i64 0], []⟩ 8 (by kernel_rfl) (by kernel_rfl) (by kernel_rfl) (by kernel_rfl)) ?_
  intro W base args ds gs before hval0 hW hcnd _
  have hval : ∀ (j : Nat) t v, Try.f3.params[j]? = some t → args[j]? = some v → Value.okWide Try.prog W .any base t v := hval0
  have hW' := hW
  obtain ⟨p, q, hA0, hV, rfl, hfz, hnd⟩ := hW
  have hA : DataW.TrodAll enc Try.prog W 0 (fun _ => true) true Try.f3.params.toList args.toList ds p := hA0
  rw [Try.params3] at hA hval
  obtain ⟨v0, vs0, d0, ds0, p0, q0, hargs, rfl, rfl, h0, r0⟩ := trodAll_cons hA
  obtain ⟨v1, vs1, d1, ds1, p1, q1, rfl, rfl, rfl, h1, r1⟩ := trodAll_cons r0
  obtain ⟨v2, vs2, d2, ds2, p2, q2, rfl, rfl, rfl, h2, r2⟩ := trodAll_cons r1
  obtain ⟨rfl, rfl, rfl⟩ := trodAll_nil r2
  obtain rfl : args = #[v0, v1, v2] := by cases args; simp_all
  obtain ⟨rfl, rfl⟩ := trodVars_none hV
  have hltA := fun x hx => hW'.lt x hx
  obtain ⟨a0, R0, w0⟩ := open_row (hval 0 22 v0 rfl rfl) h0
  obtain ⟨a1, e1, _, _, w1⟩ := open_int Try.underlying3 (hval 1 3 v1 rfl rfl) h1
  subst e1
  obtain ⟨a2, e2, _, _, w2⟩ := open_int Try.underlying3 (hval 2 3 v2 rfl rfl) h2
  subst e2
  clear hA0 hval0
  refine (walk_TriTells v0 a0 a1 a2 W R0).mono fun e W' ⟨he, bel⟩ => ?_
  subst he
  exact ⟨_, rfl, _, _, _, [], _, [], hW', trodAll_mk1 (shut_bool Try.underlying4 _), (trodAll_cons_mk (Below.trod laid_TriTells (by kernel_rfl) (of_decide_eq_true (by kernel_rfl)) h0 bel (fun x hx => by have := hltA x (by simp [hx]); simpa using this)) (trodAll_cons_mk (Below.trod laid_TriTells (by kernel_rfl) (of_decide_eq_true (by kernel_rfl)) h1 bel (fun x hx => by have := hltA x (by simp [hx]); simpa using this)) (trodAll_cons_mk (Below.trod laid_TriTells (by kernel_rfl) (of_decide_eq_true (by kernel_rfl)) h2 bel (fun x hx => by have := hltA x (by simp [hx]); simpa using this)) trodAll_mk0))), rfl, Below.frame bel _, fun h => by cases h⟩

theorem proved_TriTells : Rows.TriTellsSaid :=
  OpenClaim.holds_of_wide 3 Try.f3 rfl rfl rfl rfl rfl rfl rfl ⟨rfl, rfl, rfl, rfl, rfl⟩ rfl rfl rfl rfl rfl (by kernel_rfl) Try.func3 (by kernel_rfl)
    (of_decide_eq_true (by kernel_rfl)) (by unfold Func.isWrapper; first | (rw [if_pos (by decide +kernel)]; kernel_rfl) | (rw [if_neg (by decide +kernel)]; exact ⟨rfl, rfl⟩))
    (fun os started H enc _ => lifted_TriTells os started H enc)
#print axioms proved_TriTells
end Go.Proofs.Ytbfdkahbnfpabaa

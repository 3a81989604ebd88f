/- TriSquares: a square is the same mirrored; of a matrix times a row it is as the dots say; its diagonal is not below 0 (of 5 by 5 at most, numbers from -100 up to 100). Conditions: none (every input). -/
import Derived.Test.YtbfdkahbnfpabaaGU
import Derived.Test.YtbfdkahbnfpabaaVeI
import Derived.ProofKit
import Derived.OpenShut
import Derived.Carry
/- Squares of whole numbers, as fractions (layer 7): contract, mathematics. Written by genTw.py. -/
namespace Go.Proofs.Ytbfdkahbnfpabaa
open Go.RowKit
set_option linter.unusedSimpArgs false
set_option linter.unusedVariables false

theorem sqI_symm (n : Nat) (f : Nat → Nat → Int) (i k : Nat) : sqI n f i k = sqI n f k i := dotI_comm _ _
theorem sqI_mir (n : Nat) (f : Nat → Nat → Int) (i k : Nat) : sqI n f (max i k) (min i k) = sqI n f i k := by
  by_cases h : k ≤ i
  · rw [Nat.max_eq_left h, Nat.min_eq_right h]
  · rw [Nat.max_eq_right (by omega), Nat.min_eq_left (by omega), sqI_symm]
theorem sqI_nn : ∀ (n : Nat) (f : Nat → Nat → Int) (i : Nat), 0 ≤ sqI n f i i
  | 0, f, i => by show 0 ≤ mulI 0 f _ i i; rw [mulI_zero]; omega
  | n + 1, f, i => by
    show 0 ≤ mulI (n + 1) f _ i i
    rw [mulI_succ]
    have h1 := sqI_nn n f i
    have h2 : 0 ≤ f i n * f i n := by
      rcases Int.le_total 0 (f i n) with h | h
      · exact Int.mul_nonneg h h
      · exact Int.mul_nonneg_of_nonpos_of_nonpos h h
    show 0 ≤ sqI n f i i + f i n * f i n
    omega
theorem sq7_any (n : Nat) (p : Option Addr) (N cap : Nat) (s : Nat → Nat → Int) (w : World) (h : MxI w n n p N cap s) (hs : Sm2 100 n n s) :
    Calls Try.prog 11 #[mV n n p N cap] w fun e w' => ∃ p' cap', e = .returned (.tuple #[mV n n p' N cap', .bool true]) ∧ MxI w' n n p' N cap' (sqI n s) ∧ Bl w w' := by
  refine (tSqF n p N cap _ w h).mono ?_
  rintro e w' ⟨p', cap', rfl, ⟨hm, _⟩, hb⟩
  refine ⟨p', cap', rfl, hm.congr fun i k hi hk => ?_, hb⟩
  unfold mirM
  have e := mulM_it (a := s) (b := fun i k => s k i) (A := 100) (B := 100) (R := n) (M := n) (D := n) hs (fun i k hi hk => hs k i hk hi) h.1.r2 (by omega) (by omega) (by omega) (i := max i k) (k := min i k) (by omega) (by omega)
  refine e.trans ?_
  rw [show mulI n s (fun i k => s k i) (max i k) (min i k) = sqI n s (max i k) (min i k) from rfl, sqI_mir]
theorem sqI_bound {n : Nat} {s : Nat → Nat → Int} (hn : n ≤ 16) (hs : Sm2 100 n n s) {i k : Nat} (hi : i < n) (hk : k < n) : -160000 ≤ sqI n s i k ∧ sqI n s i k ≤ 160000 := by
  have := mulI_bound (A := 100) (B := 100) (R := n) (M := n) (D := n) (a := s) (b := fun i k => s k i) (by omega) (by omega) hs (fun i k hi hk => hs k i hk hi) hi hk n (Nat.le_refl _)
  unfold sqI
  constructor <;> omega
theorem sqI_mk {n : Nat} {s : Nat → Nat → Int} (hn : n ≤ 16) (hs : Sm2 100 n n s) : ∀ x ∈ mk n n (sqI n s), Wh x := fun x hx => by
  have := mk_sml (A := 160000) (fun i k hi hk => sqI_bound hn hs hi hk) x hx
  exact ⟨by omega, by omega⟩
theorem sign_nn {v : Int} (h : 0 ≤ v) : 0 ≤ signR (itF v) := by
  unfold signR
  split
  · show 0 ≤ cmpI v 0
    unfold cmpI
    split
    · omega
    · split <;> omega
  · omega
end Go.Proofs.Ytbfdkahbnfpabaa

/- The walk of TriSquares. Written by genTw.py. -/
namespace Go.Proofs.Ytbfdkahbnfpabaa
open Go.RowKit
set_option linter.unusedSimpArgs false
set_option linter.unusedVariables false

set_option maxRecDepth 100000 in
set_option maxHeartbeats 4000000 in
theorem walk_TriSquares (va : Value) (xa : List Int) (n : Int) (w : World) (ha : Rq 1 cI w va xa) :
    Calls Try.prog 4 #[va, .int .i64 n] w fun e w' => e = .returned (.bool true) ∧ Bl w w' := by
  have AW := hideP awake7_any
  have F1 := hideP (sides_any va xa n w ha)
  obtain ⟨pa, ca, rfl, _, _⟩ := ha.cut
  obtain ⟨la, hla⟩ : ∃ la, la = xa.length := ⟨_, rfl⟩
  rw [← hla] at F1 ha ⊢
  have HA := hideP ha
  have HLA := hideP hla
  clear ha hla
  go_enter Try.func4, Try.ntmps4
  go_wp2_with fail
  refine F1.out.mono ?_
  rintro e w1 ⟨b1, rfl, hb1, rfl⟩
  clear F1
  cases b1 with
  | false =>
    go_wp2_with fail
    refine (AW.out _).mono ?_
    rintro e w9 ⟨rfl, h9⟩
    go_wp2
    go_ret
    exact ⟨rfl, (Bl.refl _).trans h9⟩
  | true =>
    obtain ⟨n1, n5, hl, s1⟩ := hb1 rfl
    clear hb1
    obtain ⟨m, rfl⟩ := Int.eq_ofNat_of_zero_le (show 0 ≤ n by omega)
    have hl2 : xa.length = m * m := by rw [← Int.natCast_mul] at hl; omega
    have hd : Dim m m := ⟨by omega, by omega, by omega, by omega⟩
    have hlam : la = m * m := by rw [HLA.out]; exact hl2
    have hfit : fitB m m la = true := fitB_dim hd hlam
    have WH := hideP (fun u (hu : Bl w1 u) => whole6_call m m pa la ca xa u (HA.out.later hu) hfit (by rw [← HLA.out]) s1)
    have SMA := hideP (ofL_sml hl2 s1)
    have HLM := hideP hlam
    have HL2 := hideP hl2
    have HD := hideP hd
    have S1 := hideP s1
    have m5 : m ≤ 5 := by omega
    have m1' : 1 ≤ m := by omega
    have hN25 : la ≤ 25 := by rw [hlam]; exact Nat.mul_le_mul m5 m5
    clear hl hl2 hd hlam hfit s1 n1 n5
    go_wp2_with fail
    refine (WH.out _ (Bl.refl _)).mono ?_
    rintro e w2 ⟨p1, c1, rfl, hx, h2⟩
    have HX := hideP hx
    clear hx WH
    have mx := MBox.new w2 m m p1 la c1 27
    have hsm := SMA.out
    obtain ⟨fa, hfa⟩ : ∃ fa, fa = ofL m xa := ⟨_, rfl⟩
    have hx := HX.out
    rw [← hfa] at hx hsm
    have HX2 := hideP hx
    have HSM := hideP hsm
    have HFA := hideP hfa
    clear hx hsm hfa HX SMA mx
    obtain ⟨W2, hW2⟩ : ∃ W2, W2 = w2.alloc (.cells #[.int .i64 m, .int .i64 m, .slice p1 la c1] 27) := ⟨_, rfl⟩
    have b2 : Bl w2 W2 := by rw [hW2]; exact (Bl.refl _).alloc _
    have k2 := MBox.new w2 m m p1 la c1 27
    rw [← hW2] at k2
    go_wp2_with fail
    rw [← hW2]
    have HW2 := hideP hW2
    clear hW2
    refine (sq7_any m p1 la c1 fa W2 (HX2.out.later b2) HSM.out).mono ?_
    rintro e w3 ⟨p3, c3, rfl, hs, h3⟩
    have HS := hideP hs
    clear hs
    obtain ⟨W3, hW3⟩ : ∃ W3, W3 = w3.alloc (.cells #[.int .i64 m, .int .i64 m, .slice p3 la c3] 27) := ⟨_, rfl⟩
    have b3 : Bl w3 W3 := by rw [hW3]; exact (Bl.refl _).alloc _
    have k3 := MBox.new w3 m m p3 la c3 27
    rw [← hW3] at k3
    go_wp2_with fail
    rw [← hW3]
    have HW3 := hideP hW3
    clear hW3
    refine (mMirrorF m p3 la c3 _ W3 (HS.out.later b3)).mono ?_
    rintro e w4 ⟨p4, c4, rfl, ⟨hp, _, _⟩, h4⟩
    have HP := hideP (show MxI w4 m m p4 la c4 (sqI m fa) from hp.congr fun i k _ _ => by unfold mirM; dsimp only; rw [sqI_mir])
    clear hp
    obtain ⟨W4, hW4⟩ : ∃ W4, W4 = w4.alloc (.cells #[.int .i64 m, .int .i64 m, .slice p4 la c4] 27) := ⟨_, rfl⟩
    have b4 : Bl w4 W4 := by rw [hW4]; exact (Bl.refl _).alloc _
    have k4 := MBox.new w4 m m p4 la c4 27
    rw [← hW4] at k4
    have b24 : Bl W2 W4 := h3.trans (b3.trans (h4.trans b4))
    have b34 : Bl W3 W4 := h4.trans b4
    have k2' := k2.later b24
    have k3' := k3.later b34
    have HX4 := hideP (HX2.out.later (b2.trans b24))
    have HS4 := hideP (HS.out.later (b3.trans b34))
    have HP4 := hideP (HP.out.later b4)
    clear HX2 HS HP
    obtain ⟨x0, x1, x2, _, _, _, lt3⟩ := id k3'
    rw [hW4] at x0 x1 x2
    go_wp2_with fail
    rw [← hW4]
    have HW4 := hideP hW4
    clear hW4 x0 x1 x2
    refine (tDiagF m p3 la c3 _ W4 HS4.out).mono ?_
    rintro e w5 ⟨q1, d1, rfl, hr5, h5⟩
    have hDl : ((List.range m).map fun i => itF (sqI m fa i i)).length = m := by simp
    have R5 := hideP (rq_cells hr5.q)
    have k25 := k2'.later h5
    have k35 := k3'.later h5
    have k45 := k4.later h5
    clear hr5 k2' k3' k4 hDl
    go_wp2_with fail
    go_loopw [38] (fun v wr => ∃ j : Nat, v = .int .i64 j ∧ j ≤ m ∧ Bl w5 wr) (fun v _ => m - (intOf v).toNat)
    case atStart => exact ⟨0, rfl, Nat.zero_le _, Bl.refl _⟩
    case round =>
      obtain ⟨j, rfl, hj, bl⟩ := hrel
      by_cases hlt : j < m
      · obtain ⟨x, hx⟩ : ∃ x, x = itF (sqI m fa j j) := ⟨_, rfl⟩
        obtain ⟨b, o, rfl, CX⟩ := R5.out j x (by rw [hx]; simp [hlt])
        obtain ⟨c0, c1', c2⟩ := CX wr bl
        obtain ⟨V, hV⟩ : ∃ V, V = wr.alloc (.cells #[.int .i64 x.n, .int .i64 x.d, .bool x.bad] 31) := ⟨_, rfl⟩
        have bV : Bl wr V := by rw [hV]; exact (Bl.refl _).alloc _
        have BX : FBox V wr.heap.size x := by rw [hV]; exact FBox.new wr x _
        have mV5 := k25.later (bl.trans bV)
        have XV := HX4.out.later (h5.trans (bl.trans bV))
        have ROW := hideP (fun (u : World) (hu : Bl V u) => (mRowF m m p1 la c1 _ u (XV.later hu) j hlt).mono (R' := fun e w' => ∃ q c, e = .returned (.slice q m c) ∧ Rw 3 cellsF w' (.slice q m c) (rowM m (fun i k => itF (fa i k)) j) ∧ Bl u w') (by rintro e w' ⟨q, c, rfl, ⟨hr, _, _⟩, hb⟩; exact ⟨q, c, rfl, hr, hb⟩))
        have hdot : dotF (rowM m (fun i k => itF (fa i k)) j) (rowM m (fun i k => itF (fa i k)) j) = x := by
          rw [hx]
          exact mulM_it (a := fa) (b := fun i k => fa k i) (A := 100) (B := 100) (R := m) (M := m) (D := m) HSM.out (fun i k hi hk => HSM.out k i hk hi) (by omega) (by omega) (by omega) (by omega) hlt hlt
        have DOT := hideP (fun (q1 : Option Addr) (c1 : Nat) (q2 : Option Addr) (c2 : Nat) (u : World) (hr1 : Rw 3 cellsF u (.slice q1 m c1) (rowM m (fun i k => itF (fa i k)) j)) (hr2 : Rw 3 cellsF u (.slice q2 m c2) (rowM m (fun i k => itF (fa i k)) j)) => by
          have := vDotF _ _ _ _ u hr1.q hr2.q (by rw [rowM_len]; omega) (by rw [rowM_len]; omega)
          rw [hdot] at this
          exact this)
        obtain ⟨sg, hsg⟩ : ∃ sg, sg = signR x := ⟨_, rfl⟩
        have hs0 : 0 ≤ sg := by rw [hsg, hx]; exact sign_nn (sqI_nn m fa j)
        have SG := hideP (fun (u : World) => by have := rsign_any x u; rw [← hsg] at this; exact this)
        have KP := hideP (fun (u : World) (hu : Bl V u) => (show u.cell? ⟨wr.heap.size, 0, none⟩ = some (.int .i64 x.n) ∧ u.cell? ⟨wr.heap.size, 1, none⟩ = some (.int .i64 x.d) ∧ u.cell? ⟨wr.heap.size, 2, none⟩ = some (.bool x.bad) ∧ u.cell? ⟨w2.heap.size, 0, none⟩ = some (.int .i64 m) ∧ u.cell? ⟨w2.heap.size, 1, none⟩ = some (.int .i64 m) ∧ u.cell? ⟨w2.heap.size, 2, none⟩ = some (.slice p1 la c1) ∧ Bl V u from
          ⟨(BX.later hu).c0, (BX.later hu).c1, (BX.later hu).c2, (mV5.later hu).c0, (mV5.later hu).c1, (mV5.later hu).c2, hu⟩))
        have ne1 := neq_selfV x
        have HXX := hideP hx
        clear CX hdot hsg hx XV BX mV5
        go_wp2_with fail
        rw [← hV]
        have HV := hideP hV
        clear hV c0 c1' c2
        go_region_held3 (fun w' => w'.cell? ⟨wr.heap.size, 0, none⟩ = some (.int .i64 x.n) ∧ w'.cell? ⟨wr.heap.size, 1, none⟩ = some (.int .i64 x.d) ∧ w'.cell? ⟨wr.heap.size, 2, none⟩ = some (.bool x.bad) ∧ w'.cell? ⟨w2.heap.size, 0, none⟩ = some (.int .i64 m) ∧ w'.cell? ⟨w2.heap.size, 1, none⟩ = some (.int .i64 m) ∧ w'.cell? ⟨w2.heap.size, 2, none⟩ = some (.slice p1 la c1) ∧ Bl V w') (exact KP.out _ (by repeat (first | exact Bl.refl _ | assumption | apply Bl.drew | apply Bl.alloc | (refine Bl.trans ?_ (by assumption)))))
          (first
            | (go_at_call 23; refine (ROW.out _ (by repeat (first | exact Bl.refl _ | assumption | apply Bl.drew | apply Bl.alloc | (refine Bl.trans ?_ (by assumption))))).mono ?_; rintro e w' ⟨qr, cr, rfl, hrr, hbr⟩; have Hrr := hideP hrr; clear hrr)
            | (go_at_call 22; refine (DOT.out _ _ _ _ _ (Rw.later (Hid.out (by assumption)) (by repeat (first | exact Bl.refl _ | assumption | apply Bl.drew | apply Bl.alloc | (refine Bl.trans ?_ (by assumption))))) (Rw.later (Hid.out (by assumption)) (by repeat (first | exact Bl.refl _ | assumption | apply Bl.drew | apply Bl.alloc | (refine Bl.trans ?_ (by assumption)))))).mono ?_; rintro e w' ⟨rfl, hbd⟩)
            | (go_at_call 24; refine (SG.out _).mono ?_; rintro e w' ⟨rfl, hbs⟩))
        all_goals
          rename_i hh
          obtain ⟨_, _, _, _, _, _, hBV⟩ := hh
          go_wp2
          go_roundw
          case rel => exact ⟨j + 1, by simp, hlt, bl.trans (bV.trans hBV)⟩
          case measure => simp [intOf]; omega
      · obtain rfl : j = m := by omega
        have kz3 := k35.later bl
        have kz4 := k45.later bl
        have hs9 := HS4.out.later (h5.trans bl)
        have hp9 := HP4.out.later (h5.trans bl)
        have AL := hideP (fun (u : World) (hu : Bl wr u) => alike_any j j p3 p4 la c3 c4 (mk j j (fun i k => itF (sqI j fa i k))) u (hs9.later hu).2.2 (hp9.later hu).2.2 (by rw [mk_len, HLM.out]) (by omega))
        have TU := hideP (fun (u : World) (hu : Bl wr u) => (mTurnF j j p3 la c3 _ u (hs9.later hu)).mono (R' := fun e w' => ∃ q c, e = .returned (mV j j q la c) ∧ (∀ u', Bl w' u' → Calls Try.prog 25 #[mV j j p3 la c3, mV j j q la c] u' fun e w'' => e = .returned (.bool true) ∧ Bl u' w'') ∧ Bl u w') (by
          rintro e w' ⟨q, c, rfl, ⟨ht, _, _⟩, hb⟩
          refine ⟨q, c, rfl, fun u' hu' => ?_, hb⟩
          have ht2 : MxI w' j j q la c (sqI j fa) := ht.congr fun i k _ _ => by rw [sqI_symm]
          exact alike_any j j p3 q la c3 c (mk j j (fun i k => itF (sqI j fa i k))) u' (hs9.later (hu.trans (hb.trans hu'))).2.2 (ht2.later hu').2.2 (by rw [mk_len, HLM.out]) (by omega)))
        have SQ := hideP (fun (u : World) (hu : Bl wr u) => (ref7Turn_any pa la ca xa j u HD.out (HA.out.later ((h2.trans (b2.trans (b24.trans (h5.trans bl)))).trans hu)) HL2.out HLM.out).mono (R' := fun e w' => ∃ q c, e = .returned (.slice q la c) ∧ (∀ u', Bl w' u' → Calls Try.prog 27 #[.slice pa la ca, .int .i64 j, .int .i64 j, .slice q la c, .int .i64 j] u' fun e w'' => ∃ q2 c2, e = .returned (.slice q2 la c2) ∧ (∀ u'', Bl w'' u'' → Calls Try.prog 15 #[mV j j p3 la c3, .int .i64 j, .int .i64 j, .slice q2 la c2] u'' fun e w3 => e = .returned (.bool true) ∧ Bl u'' w3) ∧ Bl u' w'') ∧ Bl u w') (by
          rintro e w' ⟨q, c, rfl, hr, hb⟩
          rw [← HLM.out] at hr ⊢
          refine ⟨q, c, rfl, fun u' hu' => ?_, hb⟩
          have st : Sml 100 (mk j j (fun i k => ofL j xa k i)) := mk_sml (fun i k hi hk => by rw [← HFA.out]; exact HSM.out k i hk hi)
          refine (ref6Mul_any pa q la ca la c xa (mk j j (fun i k => ofL j xa k i)) j j j u' HD.out HD.out (HA.out.later ((h2.trans (b2.trans (b24.trans (h5.trans bl)))).trans (hu.trans (hb.trans hu')))) (hr.later hu').q HL2.out (by rw [mk_len]) HLM.out HLM.out S1.out st).mono ?_
          rintro e w'' ⟨q2, c2, rfl, hr2, hb2⟩
          rw [← HLM.out] at hr2 ⊢
          refine ⟨q2, c2, rfl, fun u'' hu'' => ?_, hb2⟩
          have e1 : mk j j (mulI j (ofL j xa) (ofL j (mk j j (fun i k => ofL j xa k i)))) = mk j j (sqI j fa) := mk_congr fun i k hi hk => by rw [HFA.out]; exact mulI_congr7 (fun _ _ => rfl) (fun t ht => ofL_mk7 _ ht hk)
          rw [e1] at hr2
          exact same6_any j j p3 la c3 q2 c2 (mk j j (sqI j fa)) u'' (mxI_rq (hs9.later (hu.trans (hb.trans (hu'.trans (hb2.trans hu'')))))) (hr2.later hu'').q (by rw [mk_len, HLM.out]) (sqI_mk (by omega) HSM.out) (by omega)))
        have KP := hideP (fun (u : World) (hu : Bl wr u) => (show u.cell? ⟨w3.heap.size, 0, none⟩ = some (.int .i64 j) ∧ u.cell? ⟨w3.heap.size, 1, none⟩ = some (.int .i64 j) ∧ u.cell? ⟨w3.heap.size, 2, none⟩ = some (.slice p3 la c3) ∧ u.cell? ⟨w4.heap.size, 0, none⟩ = some (.int .i64 j) ∧ u.cell? ⟨w4.heap.size, 1, none⟩ = some (.int .i64 j) ∧ u.cell? ⟨w4.heap.size, 2, none⟩ = some (.slice p4 la c4) ∧ Bl wr u from
          ⟨(kz3.later hu).c0, (kz3.later hu).c1, (kz3.later hu).c2, (kz4.later hu).c0, (kz4.later hu).c1, (kz4.later hu).c2, hu⟩))
        have HB := hideP (h2.trans (b2.trans (b24.trans (h5.trans bl))))
        clear kz3 kz4 hs9 hp9 R5 k25 k35 k45 HS4 HP4 HX4 b24 b34
        go_wp2_with fail
        go_region_held3 (fun w' => w'.cell? ⟨w3.heap.size, 0, none⟩ = some (.int .i64 j) ∧ w'.cell? ⟨w3.heap.size, 1, none⟩ = some (.int .i64 j) ∧ w'.cell? ⟨w3.heap.size, 2, none⟩ = some (.slice p3 la c3) ∧ w'.cell? ⟨w4.heap.size, 0, none⟩ = some (.int .i64 j) ∧ w'.cell? ⟨w4.heap.size, 1, none⟩ = some (.int .i64 j) ∧ w'.cell? ⟨w4.heap.size, 2, none⟩ = some (.slice p4 la c4) ∧ Bl wr w') (exact KP.out _ (by repeat (first | exact Bl.refl _ | assumption | apply Bl.drew | apply Bl.alloc | (refine Bl.trans ?_ (by assumption)))))
          (first
            | (go_at_call_of 25 #[Value.agg #[Value.int IntKind.i64 j, Value.int IntKind.i64 j, Value.slice p3 la c3], Value.agg #[Value.int IntKind.i64 j, Value.int IntKind.i64 j, Value.slice p4 la c4]]; refine (AL.out _ (by repeat (first | exact Bl.refl _ | assumption | apply Bl.drew | apply Bl.alloc | (refine Bl.trans ?_ (by assumption))))).mono ?_; rintro e w' ⟨rfl, hba⟩)
            | (go_at_call 26; refine (TU.out _ (by repeat (first | exact Bl.refl _ | assumption | apply Bl.drew | apply Bl.alloc | (refine Bl.trans ?_ (by assumption))))).mono ?_; rintro e w' ⟨qt, ct, rfl, hal, hbt⟩; have Hal := hideP hal; clear hal)
            | (go_at_call 25; refine (Hal.out _ (by repeat (first | exact Bl.refl _ | assumption | apply Bl.drew | apply Bl.alloc | (refine Bl.trans ?_ (by assumption))))).mono ?_; rintro e w' ⟨rfl, hba2⟩)
            | (go_at_call 28; refine (SQ.out _ (by repeat (first | exact Bl.refl _ | assumption | apply Bl.drew | apply Bl.alloc | (refine Bl.trans ?_ (by assumption))))).mono ?_; rintro e w' ⟨qu, cu, rfl, hmu, hbu⟩; have Hmu := hideP hmu; clear hmu)
            | (go_at_call 27; refine (Hmu.out _ (by repeat (first | exact Bl.refl _ | assumption | apply Bl.drew | apply Bl.alloc | (refine Bl.trans ?_ (by assumption))))).mono ?_; rintro e w' ⟨qm, cm, rfl, hsa, hbm⟩; have Hsa := hideP hsa; clear hsa)
            | (go_at_call 15; refine (Hsa.out _ (by repeat (first | exact Bl.refl _ | assumption | apply Bl.drew | apply Bl.alloc | (refine Bl.trans ?_ (by assumption))))).mono ?_; rintro e w' ⟨rfl, hbs⟩)
            | (go_at_call 8; refine (AW.out _).mono ?_; rintro e w' ⟨rfl, hbw⟩))
        all_goals
          rename_i hh
          obtain ⟨_, _, _, _, _, _, hBV⟩ := hh
          go_wp2
          go_ret
          exact ⟨rfl, HB.out.trans hBV⟩
end Go.Proofs.Ytbfdkahbnfpabaa

/- A slice of whole numbers as an argument: opened. -/
namespace Go.Proofs.Ytbfdkahbnfpabaa
open Go.ChangeShapes Go.WideShapes Go.ChangeAt Go.RowKit
set_option linter.unusedVariables false

theorem Try.cellsInt : Try.prog.cellsOf 3 = 1 := by kernel_rfl
theorem cell_block_lt {W : World} {b o : Nat} {v : Value} (h : W.cell? ⟨b, o, none⟩ = some v) : b < W.heap.size := by
  rcases Nat.lt_or_ge b W.heap.size with h' | h'
  · exact h'
  · have : W.heap[b]? = none := Array.getElem?_eq_none h'
    simp [World.cell?, this] at h
set_option maxRecDepth 1000000 in
theorem open_row {H : Type} {enc : TypeId × Value → H} {W : World} {b0 : Nat} {v : Value} {d : DataW H} {p : List MemPlace}
    (hv : Value.okWide Try.prog W .any b0 22 v) (h : DataW.Trod enc Try.prog W 0 (fun _ => true) true 22 v d p) : ∃ ns : List Int, Rq 1 cI W v ns ∧ ∀ n ∈ ns, (Lit.int .i64 n).wf = true := by
  obtain ⟨a0, len, cap, rfl⟩ := okWide_slice Try.underlying22 hv
  obtain ⟨fuel, hf⟩ := h
  rcases open_ints Try.underlying22 Try.underlying3 Try.cellsInt hf with ⟨hcs, hx⟩ | ⟨a, len', cap', zs, hcs, _, hl, hm, hz, hx, hcell, hwz⟩
  · simp [Value.cells] at hcs
    obtain ⟨rfl, rfl, rfl⟩ := hcs
    exact ⟨[], .inl ⟨none, 0, rfl, rfl, fun _ => rfl⟩, fun n hn => by simp at hn⟩
  · simp [Value.cells] at hcs
    obtain ⟨rfl, rfl, rfl⟩ := hcs
    simp only [if_true] at hz
    refine ⟨zs.take len, ?_, fun n hn => hwz n (List.mem_of_mem_take hn)⟩
    by_cases h0 : len = 0
    · subst h0
      exact .inl ⟨some a, cap, rfl, by simp, nofun⟩
    · have c0 := hcell 0 (by omega)
      obtain ⟨b, off, rfl, hc⟩ := ints_at hcell (by omega)
      have hb : b < W.heap.size := by
        have := hc 0 (by omega)
        exact cell_block_lt this
      have hll : (zs.take len).length = len := by simp; omega
      refine .inr ⟨b, off, cap, by rw [hll], by omega, hb, fun j x hj k u hu => ?_⟩
      rcases k with _ | k
      · simp at hu
        subst hu
        have hj2 := (List.getElem?_eq_some_iff.1 hj).1
        have := hc j (by omega)
        rw [List.getElem?_take] at hj
        split at hj
        · have e : zs.getD j 0 = x := by simp [List.getD, hj]
          rw [e] at this
          simpa using this
        · cases hj
      · simp at hu
end Go.Proofs.Ytbfdkahbnfpabaa

/- TriSquares: a square is the same mirrored; of a matrix times a row it is as the dots say; its diagonal is not below 0 (of 5 by 5 at most, numbers from -100 up to 100). Conditions: none (every input). -/
namespace Go.Proofs.Ytbfdkahbnfpabaa
open Go.ChangeShapes Go.WideShapes Go.ChangeAt Go.RowKit
set_option linter.unusedVariables false

theorem own_TriSquares : ownKnob Try.prog.godebug = none := by kernel_rfl
theorem laid_TriSquares : laidOutB Try.prog = true := by kernel_rfl
set_option maxRecDepth 100000 in
theorem lifted_TriSquares (os : Os) (started : os.Started) (H : Type) (enc : TypeId × Value → H) :
    ReturnsInHanded {} Try.checked os 4 .any (Rows.triSquaresSpec.pre6 enc Try.prog Try.f4 Rows.triSquaresRow.domain false) (Rows.triSquaresSpec.post enc Try.prog Try.f4 false true false false) := by
  refine returnsInHanded_of_change (C := Try.checked) own_TriSquares started (by kernel_rfl) Try.func4
    (ChangeSpec.witness6 (enc := enc) (C := Try.checked) false ⟨#[], #[.slice none 0 0, .int .i64 0], []⟩ 8 (by kernel_rfl) (by kernel_rfl) (by kernel_rfl) (by kernel_rfl)) ?_
  intro W base args ds gs before hval0 hW hcnd _
  have hval : ∀ (j : Nat) t v, Try.f4.params[j]? = some t → args[j]? = some v → Value.okWide Try.prog W .any base t v := hval0
  have hW' := hW
  obtain ⟨p, q, hA0, hV, rfl, hfz, hnd⟩ := hW
  have hA : DataW.TrodAll enc Try.prog W 0 (fun _ => true) true Try.f4.params.toList args.toList ds p := hA0
  rw [Try.params4] at hA hval
  obtain ⟨v0, vs0, d0, ds0, p0, q0, hargs, rfl, rfl, h0, r0⟩ := trodAll_cons hA
  obtain ⟨v1, vs1, d1, ds1, p1, q1, rfl, rfl, rfl, h1, r1⟩ := trodAll_cons r0
  obtain ⟨rfl, rfl, rfl⟩ := trodAll_nil r1
  obtain rfl : args = #[v0, v1] := by cases args; simp_all
  obtain ⟨rfl, rfl⟩ := trodVars_none hV
  have hltA := fun x hx => hW'.lt x hx
  obtain ⟨a0, R0, w0⟩ := open_row (hval 0 22 v0 rfl rfl) h0
  obtain ⟨a1, e1, _, _, w1⟩ := open_int Try.underlying3 (hval 1 3 v1 rfl rfl) h1
  subst e1
  clear hA0 hval0
  refine (walk_TriSquares v0 a0 a1 W R0).mono fun e W' ⟨he, bel⟩ => ?_
  subst he
  exact ⟨_, rfl, _, _, _, [], _, [], hW', trodAll_mk1 (shut_bool Try.underlying4 _), (trodAll_cons_mk (Below.trod laid_TriSquares (by kernel_rfl) (of_decide_eq_true (by kernel_rfl)) h0 bel (fun x hx => by have := hltA x (by simp [hx]); simpa using this)) (trodAll_cons_mk (Below.trod laid_TriSquares (by kernel_rfl) (of_decide_eq_true (by kernel_rfl)) h1 bel (fun x hx => by have := hltA x (by simp [hx]); simpa using this)) trodAll_mk0)), rfl, Below.frame bel _, fun h => by cases h⟩

theorem proved_TriSquares : Rows.TriSquaresSaid :=
  OpenClaim.holds_of_wide 4 Try.f4 rfl rfl rfl rfl rfl rfl rfl ⟨rfl, rfl, rfl, rfl, rfl⟩ rfl rfl rfl rfl rfl (by kernel_rfl) Try.func4 (by kernel_rfl)
    (of_decide_eq_true (by kernel_rfl)) (by unfold Func.isWrapper; first | (rw [if_pos (by decide +kernel)]; kernel_rfl) | (rw [if_neg (by decide +kernel)]; exact ⟨rfl, rfl⟩))
    (fun os started H enc _ => lifted_TriSquares os started H enc)
#print axioms proved_TriSquares
end Go.Proofs.Ytbfdkahbnfpabaa

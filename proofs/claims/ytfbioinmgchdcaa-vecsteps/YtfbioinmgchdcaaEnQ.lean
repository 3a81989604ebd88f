/- The contract of the document's Do (layer 3). -/
import Derived.Test.YtfbioinmgchdcaaEnP
import Derived.Deep.DeepCutAuto
namespace Go.Proofs.Ytfbioinmgchdcaa
open Go.RowKit
set_option linter.unusedSimpArgs false
set_option linter.unusedVariables false

/-- Which list so far. -/
def two (k : Int) : Bool := (k == 0) || (k == 4)
def lst1 (k : Int) (a b : En) : List (Int × Int) := match two k with
  | true => prs2 a b
  | false => prs4 a b
theorem lst1_y {k : Int} (a b : En) (h : two k = true) : lst1 k a b = prs2 a b := by unfold lst1; rw [h]
theorem lst1_n {k : Int} (a b : En) (h : two k = false) : lst1 k a b = prs4 a b := by unfold lst1; rw [h]
theorem lst_x {k : Int} (a b : En) (h : (k == 1) = true) : lst k a b = prsX a b := if_pos (by simpa using h)
theorem lst_o {k : Int} (a b : En) (h : (k == 1) = false) : lst k a b = lst1 k a b := by
  unfold lst
  rw [if_neg (by simpa using h)]
  cases ht : two k
  · rw [lst1_n a b ht, if_neg (by simpa [two] using ht)]
  · rw [lst1_y a b ht, if_pos (by simpa [two] using ht)]

set_option maxHeartbeats 4000000 in
set_option maxRecDepth 1000000 in
theorem do_any (k : Int) (N : Int → Int → Int → Int) (B : Int → Int → Int → Bool) (a b : En) (w : World) (hN : Bd N)
    (ho : ∀ x y m w', MD m → Calls Try.prog 43 #[.int .i64 k, .int .i64 x, .int .i64 y, .int .i64 m] w' fun e w'' => e = .returned (.tuple #[.int .i64 (N x y m), .bool (B x y m)]) ∧ Bl w' w'') :
    Calls Try.prog 22 #[.int .i64 k, enV a, enV b] w fun e w' => e = .returned (enV (doE k N B a b)) ∧ Bl w w' := by
  obtain ⟨W, X⟩ := begin_ex w a b
  have HX := hideP X
  clear X
  have O0 := hideP (fun w' => ho a.v b.v 0 w' (.inl rfl))
  have O1 := hideP (fun x y w' => ho x y 1 w' (.inr (.inl rfl)))
  have O2 := hideP (fun x y w' => ho x y 2 w' (.inr (.inr rfl)))
  have hno := do_no (k := k) (N := N) (B := B) (a := a) (b := b)
  have hyes := fun h => do_yes (k := k) (N := N) (B := B) (a := a) (b := b) h hN
  have HNO := hideP hno
  have HYES := hideP hyes
  clear ho hno hyes
  obtain ⟨a0, a1, a2, a3, _, _, _, _, _⟩ := HX.out.ba
  obtain ⟨b0, b1, b2, b3, _, _, _, _, _⟩ := HX.out.bb
  go_enter Try.func22, Try.ntmps22
  go_upto_region 2 with fail
  rw [← HX.out.eq]
  go_cut [39] (fun t wx => t = .bool (noB k a b) ∧ Bl W wx)
  case first =>
    have FA := refFine_any a
    have FB := refFine_any b
    rcases no_ways k a b with ⟨e1, e⟩ | ⟨e1, e2, e⟩ | ⟨e1, e2, e3, e⟩ | ⟨e1, e2, e3, e4, e⟩ | ⟨e1, e2, e3, e4, e⟩
    · rw [e1] at FA
      have HFA := hideP FA
      have E := hideP e
      clear FA FB e e1
      go_wp2_with fail
      refine (HFA.out _).mono ?_
      rintro e w1 ⟨rfl, h1⟩
      go_wp2
      go_meet
      exact ⟨by rw [E.out], h1⟩
    all_goals
      rw [e1] at FA
      rw [e2] at FB
      have HFA := hideP FA
      have HFB := hideP FB
      have E := hideP e
      clear FA FB e e1 e2
      go_wp2_with fail
      refine (HFA.out _).mono ?_
      rintro e w1 ⟨rfl, h1⟩
      obtain ⟨d0, d1, d2, d3, _, _, _, _, _⟩ := HX.out.bb.later h1
      go_wp2_with fail
      refine (HFB.out _).mono ?_
      rintro e w2 ⟨rfl, h2⟩
      obtain ⟨g0, g1, g2, g3, _, _, _, _, _⟩ := HX.out.bb.later (h1.trans h2)
      go_wp2
      go_meet
      exact ⟨by rw [E.out], h1.trans h2⟩
  case rest =>
    obtain ⟨rfl, hB⟩ := hcut
    have HB := hideP hB
    clear hB a0 a1 a2 a3 b0 b1 b2 b3
    go_upto_if 39 with fail
    have no := HNO.out
    have yes := HYES.out
    clear HNO HYES
    generalize noB k a b = nb at *
    cases nb
    · have hyes := yes rfl
      have HYES := hideP hyes
      clear no yes hyes
      obtain ⟨a0, a1, a2, a3, _, _, _, _, _⟩ := HX.out.ba.later HB.out
      obtain ⟨b0, b1, b2, b3, _, _, _, _, _⟩ := HX.out.bb.later HB.out
      go_upto_region 4 with fail
      go_cut [8] (fun l wx => ∃ L, l = .slice (some ⟨L, 0, none⟩) (prs4 a b).length (prs4 a b).length ∧ Pl wx L (prs4 a b) ∧ Bl W wx)
      case first =>
        have q1 : ∀ o1 o2 o3, (((wc.alloc o1).alloc o2).alloc o3).cell? ⟨w.heap.size, 2, none⟩ = some (.int .i64 a.h) := fun o1 o2 o3 => (HX.out.ba.later (((HB.out.alloc o1).alloc o2).alloc o3)).c2
        have q2 : ∀ o1 o2 o3, (((wc.alloc o1).alloc o2).alloc o3).cell? ⟨w.heap.size + 1, 2, none⟩ = some (.int .i64 b.h) := fun o1 o2 o3 => (HX.out.bb.later (((HB.out.alloc o1).alloc o2).alloc o3)).c2
        go_wp2
        go_meet
        exact ⟨_, rfl, pl4 _ _ (by simp) _ _ _ _ _ _ _ _ _ _, ((((HB.out.alloc _).alloc _).alloc _).alloc _).alloc _⟩
      case rest =>
        obtain ⟨L, rfl, hP, hB⟩ := hcut
        have HP := hideP hP
        have HB1 := hideP hB
        clear hP hB a0 a1 a2 a3 b0 b1 b2 b3
        go_upto_region 5 with fail
        go_cut [67] (fun t wx => t = .bool (two k) ∧ wc = wx)
        case first =>
          have e : two k = ((k == 0) || (k == 4)) := rfl
          cases h0 : (k == 0)
          · rw [h0] at e
            have E := hideP e
            clear e
            go_wp2
            go_meet
            exact ⟨by rw [E.out]; simp, rfl⟩
          · rw [h0] at e
            have E := hideP e
            clear e
            go_wp2
            go_meet
            exact ⟨by rw [E.out]; rfl, rfl⟩
        case rest =>
          obtain ⟨rfl, rfl⟩ := hcut
          go_upto_if 67 with fail
          go_cut [8] (fun l wx => ∃ L, l = .slice (some ⟨L, 0, none⟩) (lst1 k a b).length (lst1 k a b).length ∧ Pl wx L (lst1 k a b) ∧ Bl W wx)
          case first =>
            have ey := lst1_y (k := k) a b
            have en := lst1_n (k := k) a b
            generalize two k = tk at *
            cases tk
            · have E := hideP (en rfl)
              clear ey en
              go_wp2
              go_meet
              exact ⟨L, by rw [E.out], by rw [E.out]; exact HP.out, HB1.out⟩
            · have E := hideP (ey rfl)
              clear ey en
              obtain ⟨a0, a1, a2, a3, _, _, _, _, _⟩ := HX.out.ba.later HB1.out
              obtain ⟨b0, b1, b2, b3, _, _, _, _, _⟩ := HX.out.bb.later HB1.out
              go_wp2
              go_meet
              exact ⟨_, by rw [E.out]; rfl, by rw [E.out]; exact pl2 _ _ (by simp) _ _ _ _ _ _, ((HB1.out.alloc _).alloc _).alloc _⟩
          case rest =>
            obtain ⟨L1, rfl, hP, hB⟩ := hcut
            have HP1 := hideP hP
            have HB2 := hideP hB
            clear hP hB
            go_upto_if 80 with fail
            go_cut [8] (fun l wx => ∃ L, l = .slice (some ⟨L, 0, none⟩) (lst k a b).length (lst k a b).length ∧ Pl wx L (lst k a b) ∧ Bl W wx)
            case first =>
              cases h1 : (k == 1)
              · have E := hideP (lst_o a b h1)
                go_wp2
                go_meet
                exact ⟨L1, by rw [E.out], by rw [E.out]; exact HP1.out, HB2.out⟩
              · have E := hideP (lst_x a b h1)
                obtain ⟨a0, a1, a2, a3, _, _, _, _, _⟩ := HX.out.ba.later HB2.out
                obtain ⟨b0, b1, b2, b3, _, _, _, _, _⟩ := HX.out.bb.later HB2.out
                go_wp2
                go_meet
                exact ⟨_, by rw [E.out]; rfl, by rw [E.out]; exact pl2 _ _ (by simp) _ _ _ _ _ _, ((HB2.out.alloc _).alloc _).alloc _⟩
            case rest =>
              obtain ⟨L2, rfl, hP, hB⟩ := hcut
              have hl := lst_bd k a b
              generalize lst k a b = ps at *
              obtain ⟨hl1, hl2⟩ := hl
              have HP2 := hideP hP
              have HB3 := hideP hB
              clear hP hB HP HP1 HB HB1 HB2
              have c0 := (HX.out.ba.later HB3.out).c0
              have d0 := (HX.out.bb.later HB3.out).c0
              generalize N a.v b.v 0 = n0 at *
              generalize B a.v b.v 0 = ok0 at *
              go_wp2_with fail
              refine (O0.out _).mono ?_
              rintro e w1 ⟨rfl, h1⟩
              have H1 := hideP (HB3.out.trans h1)
              have HPL := hideP (HP2.out.later h1)
              clear h1 c0 d0 HB3 HP2
              go_wp2_with fail
              obtain ⟨V0, hV0⟩ : ∃ V0, V0 = w1.alloc (.cells #[.int .i64 n0, .int .i64 0, .int .i64 0, .bool false] 43) := ⟨_, rfl⟩
              have bV0 : Bl w1 V0 := by rw [hV0]; exact (Bl.refl _).alloc _
              have xV0 : Box V0 w1.heap.size ⟨n0, 0, 0, false⟩ := by rw [hV0]; exact Box.new w1 ⟨n0, 0, 0, false⟩ _
              rw [← hV0]
              clear hV0
              go_loopw [10, 12] (fun ok i wr => ∃ j : Nat, j ≤ ps.length ∧ ok = .bool (ok0 && okF B (ps.take j)) ∧ i = .int .i64 j ∧ Bl w1 wr ∧ Box wr w1.heap.size ⟨n0, lowW N (ps.take j), highR N (ps.take j), false⟩) (fun _ i _ => ps.length - (intOf i).toNat)
              case atStart => exact ⟨0, by omega, by simp [okF], rfl, bV0, xV0⟩
              case round =>
                obtain ⟨j, hj, rfl, rfl, hr, hbox⟩ := hrel
                have HR := hideP hr
                have HBX := hideP hbox
                clear hr hbox bV0 xV0
                by_cases hlt : j < ps.length
                · have e1 := lowW_snoc N (ps.take j) (ps.getD j (0, 0))
                  have e2 := highR_snoc N (ps.take j) (ps.getD j (0, 0))
                  have e3 := ok_snoc B (ps.take j) (ps.getD j (0, 0))
                  have f1 : j = 0 → lowW N (ps.take (j + 1)) = N (ps.getD j (0, 0)).1 (ps.getD j (0, 0)).2 1 ∧ highR N (ps.take (j + 1)) = N (ps.getD j (0, 0)).1 (ps.getD j (0, 0)).2 2 := by
                    intro h
                    rw [take_getD ps j hlt, h, List.take_zero]
                    exact ⟨rfl, rfl⟩
                  rw [← take_getD ps j hlt] at e1 e2 e3
                  have tn := take_ne ps j hlt
                  obtain ⟨q, hq, l0, l1, l2⟩ := (HPL.out.later HR.out).2 j hlt
                  have P1 := O1.out (ps.getD j (0, 0)).1 (ps.getD j (0, 0)).2
                  have P2 := O2.out (ps.getD j (0, 0)).1 (ps.getD j (0, 0)).2
                  generalize (ps.getD j (0, 0)).1 = x at *
                  generalize (ps.getD j (0, 0)).2 = y at *
                  generalize N x y 1 = n1 at *
                  generalize N x y 2 = n2 at *
                  generalize B x y 1 = b1 at *
                  generalize B x y 2 = b2 at *
                  rw [← Bool.and_assoc] at e3
                  have hL2 : L2 < wr.heap.size := (HPL.out.later HR.out).1
                  have g0 : ∀ z : Wl wr, z.w.cell? ⟨L2, j, none⟩ = some (.slice (some ⟨q, 0, none⟩) 2 2) := fun z => by rw [bl_cell z.bl _ _ hL2]; exact l0
                  have g1 : ∀ z : Wl wr, z.w.cell? ⟨q, 0, none⟩ = some (.int .i64 x) := fun z => by rw [bl_cell z.bl _ _ hq]; exact l1
                  have g2 : ∀ z : Wl wr, z.w.cell? ⟨q, 1, none⟩ = some (.int .i64 y) := fun z => by rw [bl_cell z.bl _ _ hq]; exact l2
                  have HE1 := hideP e1
                  have HE2 := hideP e2
                  have HE3 := hideP e3
                  have HF1 := hideP f1
                  have HTN := hideP tn
                  have HP1 := hideP P1
                  have HP2 := hideP P2
                  clear e1 e2 e3 f1 tn l0 l1 l2 P1 P2 hq hL2
                  generalize lowW N (ps.take j) = lo at *
                  generalize highR N (ps.take j) = hi at *
                  generalize okF B (ps.take j) = okt at *
                  go_upto_region 14 with fail
                  have wne := wl_ne wr
                  refine wl_region wr (Bl.refl _) (by kernel_rfl) (by kernel_rfl) ?_
                  repeat (go_big_quiet_step (first | (go_at_call 43; exact wl_call (HP1.out _))))
                  refine wpQuiet_nil ?_
                  intro _ hw'
                  obtain ⟨z, hw''⟩ := hw'
                  subst hw''
                  obtain ⟨w2, h2⟩ := z
                  dsimp only
                  have HH2 := hideP h2
                  clear h2
                  go_upto_region 15 with fail
                  refine wl_region wr HH2.out (by kernel_rfl) (by kernel_rfl) ?_
                  repeat (go_big_quiet_step (first | (go_at_call 43; exact wl_call (HP2.out _))))
                  refine wpQuiet_nil ?_
                  intro _ hw'
                  obtain ⟨z, hw''⟩ := hw'
                  subst hw''
                  obtain ⟨w3, h3⟩ := z
                  dsimp only
                  have HH3 := hideP h3
                  clear h3 g0 g1 g2 wne HH2
                  go_upto_region 16 with fail
                  go_cut [10] (fun t wx => t = .bool (ok0 && okt && b1 && b2) ∧ w3 = wx)
                  case first =>
                    generalize (ok0 && okt) = op at *
                    cases op
                    · go_wp2
                      go_meet
                      exact ⟨by simp, rfl⟩
                    · cases b1
                      · go_wp2
                        go_meet
                        exact ⟨by simp, rfl⟩
                      · go_wp2
                        go_meet
                        exact ⟨by simp, rfl⟩
                  case rest =>
                    obtain ⟨rfl, rfl⟩ := hcut
                    have hok : (ok0 && okt && b1 && b2) = (ok0 && okF B (ps.take (j + 1))) := by rw [HE3.out]; cases ok0 <;> cases okt <;> cases b1 <;> cases b2 <;> rfl
                    have HOK := hideP hok
                    clear hok
                    obtain ⟨c0, c1, c2, c3, f0, f1, f2, f3, _⟩ := HBX.out.later HH3.out
                    dsimp only at c0 c1 c2 c3
                    have hout : w1.heap.size < w3.heap.size := by have := (HBX.out.later HH3.out).lt; exact this
                    by_cases hj0 : j = 0
                    · have hb : ((j : Int) == 0) = true := by rw [hj0]; rfl
                      have HF := hideP (HF1.out hj0)
                      clear hj0
                      go_wp2
                      go_roundw
                      case rel =>
                        refine ⟨j + 1, by omega, by rw [HOK.out], by go_num, Bl.set (Bl.set (HR.out.trans HH3.out) (Nat.le_refl _) _) (Nat.le_refl _) _, ?_⟩
                        rw [HF.out.1, HF.out.2]
                        exact ((HBX.out.later HH3.out).set1 _).set2 _
                      case measure => simp [intOf]; omega
                    · have hb : ((j : Int) == 0) = false := by simp; omega
                      have E1 := HE1.out (HTN.out hj0)
                      have E2 := HE2.out (HTN.out hj0)
                      clear hj0
                      by_cases hx : n1 < lo
                      · rw [show min lo n1 = n1 by omega] at E1
                        have HEE1 := hideP E1
                        by_cases hy : hi < n2
                        · rw [show max hi n2 = n2 by omega] at E2
                          have HEE2 := hideP E2
                          clear E1 E2
                          go_wp2
                          go_roundw
                          case rel =>
                            refine ⟨j + 1, by omega, by rw [HOK.out], by go_num, Bl.set (Bl.set (HR.out.trans HH3.out) (Nat.le_refl _) _) (Nat.le_refl _) _, ?_⟩
                            rw [HEE1.out, HEE2.out]
                            exact ((HBX.out.later HH3.out).set1 _).set2 _
                          case measure => simp [intOf]; omega
                        · rw [show max hi n2 = hi by omega] at E2
                          have HEE2 := hideP E2
                          clear E1 E2
                          go_wp2
                          go_roundw
                          case rel =>
                            refine ⟨j + 1, by omega, by rw [HOK.out], by go_num, Bl.set (HR.out.trans HH3.out) (Nat.le_refl _) _, ?_⟩
                            rw [HEE1.out, HEE2.out]
                            exact (HBX.out.later HH3.out).set1 _
                          case measure => simp [intOf]; omega
                      · rw [show min lo n1 = lo by omega] at E1
                        have HEE1 := hideP E1
                        by_cases hy : hi < n2
                        · rw [show max hi n2 = n2 by omega] at E2
                          have HEE2 := hideP E2
                          clear E1 E2
                          go_wp2
                          go_roundw
                          case rel =>
                            refine ⟨j + 1, by omega, by rw [HOK.out], by go_num, Bl.set (HR.out.trans HH3.out) (Nat.le_refl _) _, ?_⟩
                            rw [HEE1.out, HEE2.out]
                            exact (HBX.out.later HH3.out).set2 _
                          case measure => simp [intOf]; omega
                        · rw [show max hi n2 = hi by omega] at E2
                          have HEE2 := hideP E2
                          clear E1 E2
                          go_wp2
                          go_roundw
                          case rel =>
                            refine ⟨j + 1, by omega, by rw [HOK.out], by go_num, HR.out.trans HH3.out, ?_⟩
                            rw [HEE1.out, HEE2.out]
                            exact HBX.out.later HH3.out
                          case measure => simp [intOf]; omega
                · have e : ps.take j = ps := List.take_of_length_le (by omega)
                  rw [e]
                  have hbx := HBX.out
                  rw [e] at hbx
                  have HBY := hideP hbx
                  have yes := HYES.out
                  clear e hbx HBX HYES
                  generalize lowW N ps = lo at *
                  generalize highR N ps = hi at *
                  generalize okF B ps = okt at *
                  obtain ⟨c0, c1, c2, c3, f0, f1, f2, f3, _⟩ := HX.out.bz.later (H1.out.trans HR.out)
                  generalize (ok0 && okt) = fin at *
                  cases fin
                  · have E := hideP (yes.1 rfl)
                    clear yes
                    obtain ⟨d0, d1, d2, d3, _, _, _, _, _⟩ := HX.out.bw.later (H1.out.trans HR.out)
                    unfold wrongE at d0 d1 d2 d3
                    go_wp2
                    rw [E.out]
                    simp [bodyPost, results, Try.results22, go_sem, c0, c1, c2, c3, wrongE]
                    exact Bl.set4 ((HX.out.bl.trans H1.out).trans HR.out) (by omega) _ _ _ _
                  · have E := hideP (yes.2 rfl)
                    clear yes
                    obtain ⟨d0, d1, d2, d3, _, _, _, _, _⟩ := HBY.out
                    dsimp only at d0 d1 d2 d3
                    go_wp2
                    rw [E.out]
                    simp [bodyPost, results, Try.results22, go_sem, c0, c1, c2, c3]
                    exact Bl.set4 ((HX.out.bl.trans H1.out).trans HR.out) (by omega) _ _ _ _
    · have E := hideP (no rfl)
      clear no yes
      obtain ⟨c0, c1, c2, c3, f0, f1, f2, f3, _⟩ := HX.out.bz.later HB.out
      obtain ⟨d0, d1, d2, d3, _, _, _, _, _⟩ := HX.out.bw.later HB.out
      unfold wrongE at d0 d1 d2 d3
      go_wp2
      rw [E.out]
      simp [bodyPost, results, Try.results22, go_sem, c0, c1, c2, c3, wrongE]
      exact Bl.set4 (HX.out.bl.trans HB.out) (by omega) _ _ _ _
end Go.Proofs.Ytfbioinmgchdcaa

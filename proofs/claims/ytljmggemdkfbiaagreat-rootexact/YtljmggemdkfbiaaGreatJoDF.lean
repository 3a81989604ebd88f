/- Contract of joseph's Predict, of fractions (layer 9). Written by genJo.py. -/
import Derived.Test.YtljmggemdkfbiaaGreatJoCF
import Derived.Test.YtljmggemdkfbiaaGreatMaZ
namespace Go.Proofs.YtljmggemdkfbiaaGreat
open Go.RowKit
set_option linter.unusedSimpArgs false
set_option linter.unusedVariables false

set_option maxRecDepth 100000 in
set_option maxHeartbeats 4000000 in
theorem jPredictF (n N : Nat) (px : Option Addr) (cx : Nat) (x : Nat → Fr) (p : Option Addr) (cap : Nat) (P : Nat → Nat → Fr) (pf : Option Addr) (cf : Nat) (f : Nat → Nat → Fr) (pg : Option Addr) (cg : Nat) (g : Nat → Nat → Fr) (w : World)
    (hx : Rq 3 cellsF w (.slice px n cx) (linJ n x)) (hP : Mx 3 cellsF w n n p N cap P) (hf : Mx 3 cellsF w n n pf N cf f) (hg : Mx 3 cellsF w n n pg N cg g) (h4 : n ≤ 4) :
    Calls Tryz.prog 13 #[sJ px n cx n n p N cap, mV n n pf N cf, mV n n pg N cg] w fun e w' => ∃ q c p' c', e = .returned (.tuple #[sJ q n c n n p' N c', .bool true]) ∧ (Rw 3 cellsF w' (.slice q n c) (linJ n (appJ kdF n f x)) ∧ Mx 3 cellsF w' n n p' N c' (predJ kdF n f P g)) ∧ Bl w w' := by
  have hfit := fitJ_dim hP.1 hP.2.1 h4
  obtain ⟨W, hW⟩ : ∃ W, W = (((w.alloc (.cells #[.slice px n cx, .int .i64 n, .int .i64 n, .slice p N cap] 36)).alloc (.cells #[.int .i64 n, .int .i64 n, .slice pf N cf] 30)).alloc (.cells #[.int .i64 n, .int .i64 n, .slice pg N cg] 30)).alloc (.cells #[.slice none 0 0, .int .i64 0, .int .i64 0, .slice none 0 0] 36) := ⟨_, rfl⟩
  have b0 : Bl w W := by rw [hW]; exact ((((Bl.refl _).alloc _).alloc _).alloc _).alloc _
  have s0 : SBox W w.heap.size px n cx n n p N cap := by rw [hW]; exact (SBox.new w _ _ _ _ _ _ _ _ _).later ((((Bl.refl _).alloc _).alloc _).alloc _)
  have mf0 : MBox W (w.heap.size + 1) n n pf N cf := by rw [hW]; have := MBox.new (w.alloc (.cells #[.slice px n cx, .int .i64 n, .int .i64 n, .slice p N cap] 36)) n n pf N cf 30; rw [World.size_alloc] at this; exact this.later (((Bl.refl _).alloc _).alloc _)
  have mg0 : MBox W (w.heap.size + 1 + 1) n n pg N cg := by rw [hW]; have := MBox.new ((w.alloc (.cells #[.slice px n cx, .int .i64 n, .int .i64 n, .slice p N cap] 36)).alloc (.cells #[.int .i64 n, .int .i64 n, .slice pf N cf] 30)) n n pg N cg 30; rw [World.size_alloc, World.size_alloc] at this; exact this.later ((Bl.refl _).alloc _)
  have z0 : SBox W (w.heap.size + 1 + 1 + 1) none 0 0 0 0 none 0 0 := by rw [hW]; have := SBox.new (((w.alloc (.cells #[.slice px n cx, .int .i64 n, .int .i64 n, .slice p N cap] 36)).alloc (.cells #[.int .i64 n, .int .i64 n, .slice pf N cf] 30)).alloc (.cells #[.int .i64 n, .int .i64 n, .slice pg N cg] 30)) none 0 0 0 0 none 0 0 36; rw [World.size_alloc, World.size_alloc, World.size_alloc] at this; exact this
  have hs : W.heap.size = w.heap.size + 1 + 1 + 1 + 1 := by rw [hW]; simp
  have HX := hideP hx
  have HP := hideP hP
  have HFX := hideP hf
  have HGX := hideP hg
  have HW := hideP hW
  clear hW hx hP hf hg
  go_enter Tryz.func13, Tryz.ntmps13
  go_wp2_with fail
  rw [← HW.out]
  refine (jRightF _ _ _ _ _ _ _ _ _).mono ?_
  rintro e w1 ⟨rfl, h1⟩
  rw [hfit]
  obtain ⟨c0, c1, c2, _, _, _, _⟩ := mf0.later h1
  go_wp2_with fail
  refine (jFitsF _ _ _ _ _ _ _).mono ?_
  rintro e w2 ⟨rfl, h2⟩
  rw [hfit]
  clear c0 c1 c2
  obtain ⟨c0, c1, c2, _, _, _, _⟩ := mg0.later (h1.trans h2)
  go_wp2_with fail
  refine (jFitsF _ _ _ _ _ _ _).mono ?_
  rintro e w3 ⟨rfl, h3⟩
  rw [hfit]
  clear c0 c1 c2
  have b3 : Bl W w3 := h1.trans (h2.trans h3)
  obtain ⟨c0, c1, c2, _, _, _, _⟩ := mf0.later b3
  obtain ⟨d0, d1, d2, d3, _, _, _, _, _⟩ := s0.later b3
  go_wp2_with fail
  refine (mApplyF' n n pf N cf f px cx (linJ n x) w3 (HFX.out.later (b0.trans b3)) (HX.out.later (b0.trans b3)) (linJ_len _ _)).mono ?_
  rintro e w4 ⟨q, c, rfl, hR, hFr, h4'⟩
  have HR := hideP (show Rw 3 cellsF w4 (.slice q n c) (linJ n (appJ kdF n f x)) from hR)
  have b4 : Bl W w4 := b3.trans h4'
  have HF := hideP (show Fresh (w.heap.size + 1 + 1 + 1 + 1) (.slice q n c) from fresh_le hFr (by have := b3.size; omega))
  clear c0 c1 c2 d0 d1 d2 d3 hR hFr
  obtain ⟨c0, c1, c2, _, _, _, _⟩ := mf0.later b4
  obtain ⟨d0, d1, d2, d3, _, _, _, _, _⟩ := s0.later b4
  go_wp2_with fail
  refine (jAroundF n N pf cf f p cap P w4 (HFX.out.later (b0.trans b4)) (HP.out.later (b0.trans b4))).mono ?_
  rintro e w5 ⟨p5, c5, rfl, ⟨h5x, _⟩, h5⟩
  have k5 := MBox.new w5 n n p5 N c5 30
  obtain ⟨W5, hW5⟩ : ∃ W5, W5 = w5.alloc (.cells #[.int .i64 n, .int .i64 n, .slice p5 N c5] 30) := ⟨_, rfl⟩
  have b5' : Bl w5 W5 := by rw [hW5]; exact (Bl.refl _).alloc _
  rw [← hW5] at k5
  have b5 : Bl W W5 := b4.trans (h5.trans b5')
  have H5 := hideP (Mx.later h5x b5')
  clear c0 c1 c2 d0 d1 d2 d3 h5x
  obtain ⟨c0, c1, c2, _, _, _, _⟩ := mg0.later b5
  have HW5 := hideP hW5
  rw [hW5] at c0 c1 c2
  clear hW5
  go_wp2_with fail
  rw [← HW5.out]
  refine (tSqF n pg N cg g W5 (HGX.out.later (b0.trans b5))).mono ?_
  rintro e w6 ⟨p6, c6, rfl, ⟨h6x, _⟩, h6⟩
  have k6 := MBox.new w6 n n p6 N c6 30
  obtain ⟨W6, hW6⟩ : ∃ W6, W6 = w6.alloc (.cells #[.int .i64 n, .int .i64 n, .slice p6 N c6] 30) := ⟨_, rfl⟩
  have b6' : Bl w6 W6 := by rw [hW6]; exact (Bl.refl _).alloc _
  rw [← hW6] at k6
  have b6 : Bl W W6 := b5.trans (h6.trans b6')
  have H6 := hideP (show Mx 3 cellsF W6 n n p6 N c6 (squareJ kdF n g) from Mx.later h6x b6')
  clear c0 c1 c2 h6x
  have k56 := k5.later (h6.trans b6')
  obtain ⟨c0, c1, c2, _, _, _, _⟩ := k6
  obtain ⟨d0, d1, d2, _, _, _, _⟩ := k56
  have HW6 := hideP hW6
  rw [hW6] at c0 c1 c2 d0 d1 d2
  clear hW6
  go_wp2_with fail
  rw [← HW6.out]
  refine (jMirroredF n N p5 c5 _ p6 c6 _ W6 (H5.out.later (h6.trans b6')) H6.out).mono ?_
  rintro e w7 ⟨p7, c7, rfl, ⟨h7x, hF7⟩, h7⟩
  have b7 : Bl W w7 := b6.trans h7
  have H7 := hideP (show Mx 3 cellsF w7 n n p7 N c7 (predJ kdF n f P g) from h7x)
  have HF7 := hideP (show Fresh (w.heap.size + 1 + 1 + 1 + 1) (.slice p7 N c7) from fresh_le hF7 (by have := b6.size; omega))
  clear c0 c1 c2 d0 d1 d2 h7x hF7 H5 H6
  obtain ⟨c0, c1, c2, c3, f0, f1, f2, f3, lt⟩ := z0.later b7
  have b47 : Bl w4 w7 := (h5.trans b5').trans ((h6.trans b6').trans h7)
  have BS := Tryz.buildSF q n c n n p7 N c7 w7
  go_wp2
  simp [bodyPost, results, Tryz.results13, go_sem, c0, c1, c2, c3]
  exact ⟨q, c, p7, c7, by simp, ⟨rw_put4F (HR.out.later b47) HF.out _ _ _ _, mx_put4 H7.out HF7.out _ _ _ _⟩, Bl.put4 (b0.trans b7) (by omega) _ _ _ _⟩
set_option maxRecDepth 100000 in
set_option maxHeartbeats 4000000 in
theorem jPredictF_no (px : Option Addr) (nx cx : Nat) (r c : Int) (p : Option Addr) (N cap : Nat) (fr fc : Int) (pf : Option Addr) (Nf cf : Nat) (gr gc : Int) (pg : Option Addr) (Ng cg : Nat) (w : World)
    (hno : (fitJ r c N nx && (fitJ fr fc Nf nx && fitJ gr gc Ng nx)) = false) :
    Calls Tryz.prog 13 #[sJ px nx cx r c p N cap, mV fr fc pf Nf cf, mV gr gc pg Ng cg] w fun e w' => e = .returned (.tuple #[sJ none 0 0 0 0 none 0 0, .bool false]) ∧ Bl w w' := by
  obtain ⟨W, hW⟩ : ∃ W, W = (((w.alloc (.cells #[.slice px nx cx, .int .i64 r, .int .i64 c, .slice p N cap] 36)).alloc (.cells #[.int .i64 fr, .int .i64 fc, .slice pf Nf cf] 30)).alloc (.cells #[.int .i64 gr, .int .i64 gc, .slice pg Ng cg] 30)).alloc (.cells #[.slice none 0 0, .int .i64 0, .int .i64 0, .slice none 0 0] 36) := ⟨_, rfl⟩
  have b0 : Bl w W := by rw [hW]; exact ((((Bl.refl _).alloc _).alloc _).alloc _).alloc _
  have s0 : SBox W w.heap.size px nx cx r c p N cap := by rw [hW]; exact (SBox.new w _ _ _ _ _ _ _ _ _).later ((((Bl.refl _).alloc _).alloc _).alloc _)
  have mf0 : MBox W (w.heap.size + 1) fr fc pf Nf cf := by rw [hW]; have := MBox.new (w.alloc (.cells #[.slice px nx cx, .int .i64 r, .int .i64 c, .slice p N cap] 36)) fr fc pf Nf cf 30; rw [World.size_alloc] at this; exact this.later (((Bl.refl _).alloc _).alloc _)
  have mg0 : MBox W (w.heap.size + 1 + 1) gr gc pg Ng cg := by rw [hW]; have := MBox.new ((w.alloc (.cells #[.slice px nx cx, .int .i64 r, .int .i64 c, .slice p N cap] 36)).alloc (.cells #[.int .i64 fr, .int .i64 fc, .slice pf Nf cf] 30)) gr gc pg Ng cg 30; rw [World.size_alloc, World.size_alloc] at this; exact this.later ((Bl.refl _).alloc _)
  have z0 : SBox W (w.heap.size + 1 + 1 + 1) none 0 0 0 0 none 0 0 := by rw [hW]; have := SBox.new (((w.alloc (.cells #[.slice px nx cx, .int .i64 r, .int .i64 c, .slice p N cap] 36)).alloc (.cells #[.int .i64 fr, .int .i64 fc, .slice pf Nf cf] 30)).alloc (.cells #[.int .i64 gr, .int .i64 gc, .slice pg Ng cg] 30)) none 0 0 0 0 none 0 0 36; rw [World.size_alloc, World.size_alloc, World.size_alloc] at this; exact this
  have hs : W.heap.size = w.heap.size + 1 + 1 + 1 + 1 := by rw [hW]; simp
  have HW := hideP hW
  clear hW
  go_enter Tryz.func13, Tryz.ntmps13
  go_wp2_with fail
  rw [← HW.out]
  refine (jRightF _ _ _ _ _ _ _ _ _).mono ?_
  rintro e w1 ⟨rfl, h1⟩
  cases h1' : fitJ r c N nx with
  | false =>
    obtain ⟨c0, c1, c2, c3, f0, f1, f2, f3, lt⟩ := z0.later h1
    go_wp2
    simp [bodyPost, results, Tryz.results13, go_sem, c0, c1, c2, c3]
    exact Bl.put4 (b0.trans h1) (by omega) _ _ _ _
  | true =>
    rw [h1', Bool.true_and] at hno
    obtain ⟨c0, c1, c2, _, _, _, _⟩ := mf0.later h1
    go_wp2_with fail
    refine (jFitsF _ _ _ _ _ _ _).mono ?_
    rintro e w2 ⟨rfl, h2⟩
    clear c0 c1 c2
    cases h2' : fitJ fr fc Nf nx with
    | false =>
      obtain ⟨c0, c1, c2, c3, f0, f1, f2, f3, lt⟩ := z0.later (h1.trans h2)
      go_wp2
      simp [bodyPost, results, Tryz.results13, go_sem, c0, c1, c2, c3]
      exact Bl.put4 (b0.trans (h1.trans h2)) (by omega) _ _ _ _
    | true =>
      rw [h2', Bool.true_and] at hno
      obtain ⟨c0, c1, c2, _, _, _, _⟩ := mg0.later (h1.trans h2)
      go_wp2_with fail
      refine (jFitsF _ _ _ _ _ _ _).mono ?_
      rintro e w3 ⟨rfl, h3⟩
      rw [hno]
      clear c0 c1 c2
      obtain ⟨c0, c1, c2, c3, f0, f1, f2, f3, lt⟩ := z0.later (h1.trans (h2.trans h3))
      go_wp2
      simp [bodyPost, results, Tryz.results13, go_sem, c0, c1, c2, c3]
      exact Bl.put4 (b0.trans (h1.trans (h2.trans h3))) (by omega) _ _ _ _
end Go.Proofs.YtljmggemdkfbiaaGreat

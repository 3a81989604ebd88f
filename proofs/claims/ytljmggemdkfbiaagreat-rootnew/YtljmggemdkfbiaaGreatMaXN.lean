/- Contracts of mat's each, Add, Sub, of enclosed numbers (layer 6). -/
import Derived.Test.YtljmggemdkfbiaaGreatMaX
import Derived.Test.YtljmggemdkfbiaaGreatMaDN
namespace Go.Proofs.YtljmggemdkfbiaaGreat
open Go.RowKit
set_option linter.unusedSimpArgs false
set_option linter.unusedVariables false

set_option maxRecDepth 100000 in
set_option maxHeartbeats 2000000 in
theorem mEachN (G : Nat) (op : En → En → En) (eg : ∀ (args : Array Value) (w : World), (callFunc G args).run Tryz.prog w = .ok (.enter G args) w) (R C : Nat) (p q : Option Addr) (n cap cap2 : Nat) (f g : Nat → Nat → En) (w : World) (hx : Mx 4 cellsN w R C p n cap f) (hy : Mx 4 cellsN w R C q n cap2 g)
    (hG : ∀ (va vb : Value) (xs ys : List En) (w : World), Rq 4 cellsN w va xs → Rq 4 cellsN w vb ys → xs.length ≤ 1000000 → ys.length ≤ 1000000 → Calls Tryz.prog G #[va, vb] w fun e w' => ∃ u, e = .returned u ∧ Rw 4 cellsN w' u (List.zipWith op xs ys) ∧ Fresh w.heap.size u ∧ Bl w w') :
    Calls Tryz.prog 201 #[mV R C p n cap, mV R C q n cap2, .func (.func G) #[] #[]] w fun e w' => ∃ p' cap', e = .returned (.tuple #[mV R C p' n cap', .bool true]) ∧ (Mx 4 cellsN w' R C p' n cap' (fun i k => op (f i k) (g i k)) ∧ Fresh w.heap.size (.slice p' n cap')) ∧ Bl w w' := by
  have hfx := hx.fit
  have fm : Tryz.prog.follows .mixedOrders = true := by kernel_rfl
  obtain ⟨W, hW⟩ : ∃ W, W = ((w.alloc (.cells #[.int .i64 R, .int .i64 C, .slice p n cap] 48)).alloc (.cells #[.int .i64 R, .int .i64 C, .slice q n cap2] 48)).alloc (.cells #[.int .i64 0, .int .i64 0, .slice none 0 0] 48) := ⟨_, rfl⟩
  have b0 : Bl w W := by rw [hW]; exact (((Bl.refl _).alloc _).alloc _).alloc _
  have mx0 : MBox W w.heap.size R C p n cap := by rw [hW]; exact (MBox.new w _ _ _ _ _ _).later (((Bl.refl _).alloc _).alloc _)
  have my0 : MBox W (w.heap.size + 1) R C q n cap2 := by rw [hW]; have := (MBox.new (w.alloc (.cells #[.int .i64 R, .int .i64 C, .slice p n cap] 48)) R C q n cap2 48); rw [World.size_alloc] at this; exact this.later ((Bl.refl _).alloc _)
  have mz0 : MBox W (w.heap.size + 1 + 1) 0 0 none 0 0 := by rw [hW]; have := MBox.new ((w.alloc (.cells #[.int .i64 R, .int .i64 C, .slice p n cap] 48)).alloc (.cells #[.int .i64 R, .int .i64 C, .slice q n cap2] 48)) 0 0 none 0 0 48; rw [World.size_alloc, World.size_alloc] at this; exact this
  have hs0 : W.heap.size = w.heap.size + 1 + 1 + 1 := by rw [hW]; simp
  have HX := hideP hx
  have HY := hideP hy
  have HG := hideP hG
  have HW := hideP hW
  clear hW hx hy hG
  go_enter Tryz.func201, Tryz.ntmps201
  go_wp2_with fail
  rw [← HW.out]
  refine (mRightN _ _ _ _ _ _).mono ?_
  rintro e w1 ⟨rfl, h1⟩
  rw [hfx]
  obtain ⟨d0, d1, d2, u0, u1, u2, ltm⟩ := my0.later h1
  go_wp2_with fail
  refine (mRightN _ _ _ _ _ _).mono ?_
  rintro e w2 ⟨rfl, h2⟩
  rw [hfx]
  clear d0 d1 d2 u0 u1 u2 ltm
  have hB2 : Bl W w2 := h1.trans h2
  obtain ⟨c0, c1, c2, f0, f1, f2, lt⟩ := mx0.later hB2
  obtain ⟨d0, d1, d2, u0, u1, u2, ltm⟩ := my0.later hB2
  go_wp2_with fail
  clear c0 c1 c2 f0 f1 f2 lt d0 d1 d2 u0 u1 u2 ltm
  have ES : EachS w R C p q n cap cap2 w2 := ⟨mx0.later hB2, my0.later hB2, ⟨_, _, _, _, _, mz0.later hB2⟩, b0.trans hB2⟩
  have CL := hideP (fun (u : World) (hu : Bl w u) => (HG.out (.slice p n cap) (.slice q n cap2) (mk R C f) (mk R C g) u (HX.out.2.2.later hu) (HY.out.2.2.later hu) (by rw [mk_len]; have := HX.out.1.lt; omega) (by rw [mk_len]; have := HX.out.1.lt; omega)).mono (R' := fun e w' => ∃ p' cap', e = .returned (.slice p' n cap') ∧ (Rw 4 cellsN w' (.slice p' n cap') (mk R C (fun i k => op (f i k) (g i k))) ∧ Fresh u.heap.size (.slice p' n cap')) ∧ Bl u w') (by
    rintro e w' ⟨v, rfl, hr, hf, hb⟩
    rw [mk_zip] at hr
    obtain ⟨p', cap', rfl, _, _⟩ := hr.cut
    rw [mk_len, ← HX.out.2.1] at hr hf ⊢
    exact ⟨p', cap', rfl, ⟨hr, hf⟩, hb⟩))
  have KP := hideP (fun (u : World) (hu : EachS w R C p q n cap cap2 u) => (show u.cell? ⟨w.heap.size, 0, none⟩ = some (.int .i64 R) ∧ u.cell? ⟨w.heap.size, 1, none⟩ = some (.int .i64 C) ∧ u.cell? ⟨w.heap.size, 2, none⟩ = some (.slice p n cap) ∧ u.cell? ⟨w.heap.size + 1, 2, none⟩ = some (.slice q n cap2) ∧ EachS w R C p q n cap cap2 u from ⟨hu.x.c0, hu.x.c1, hu.x.c2, hu.y.c2, hu⟩))
  have HES := hideP ES
  clear ES mx0 my0 mz0
  go_region_held3 (fun u => u.cell? ⟨w.heap.size, 0, none⟩ = some (.int .i64 R) ∧ u.cell? ⟨w.heap.size, 1, none⟩ = some (.int .i64 C) ∧ u.cell? ⟨w.heap.size, 2, none⟩ = some (.slice p n cap) ∧ u.cell? ⟨w.heap.size + 1, 2, none⟩ = some (.slice q n cap2) ∧ EachS w R C p q n cap cap2 u)
    (first | exact KP.out _ ((HES.out.later (show Bl w2 w3 by repeat (first | exact Bl.refl _ | apply Bl.drew | (refine Bl.trans ?_ (by assumption))))).stored _ _ _ _ _) | exact KP.out _ (HES.out.later (by repeat (first | exact Bl.refl _ | apply Bl.drew | (refine Bl.trans ?_ (by assumption))))))
    (first
      | (refine (CL.out _ (HES.out.later (by repeat (first | exact Bl.refl _ | apply Bl.drew | (refine Bl.trans ?_ (by assumption))))).bl).mono ?_; rintro e w3 ⟨p', cap', rfl, ⟨hR, hF⟩, h3⟩; obtain ⟨a1, a2, a3, a4, a5, ⟨z0, z1, z2, y0, y1, y2, ltz⟩⟩ := (HES.out.later (show Bl w2 w3 by repeat (first | exact Bl.refl _ | apply Bl.drew | (refine Bl.trans ?_ (by assumption))))).z))
  have hF' : Fresh (w.heap.size + 1 + 1 + 1) (.slice p' n cap') := fun b hb => by
    have h1 := hF b hb
    have h2 := hB2.size
    have h4 : w2.heap.size ≤ w2.drew.heap.size := Nat.le_refl _
    omega
  have HR := hideP hR
  have HF := hideP hF'
  clear hR hF hF'
  rename_i hh
  obtain ⟨_, _, _, _, hS⟩ := hh
  have HS := hideP hS
  clear hS
  go_wp2
  simp [bodyPost, results, Tryz.results201, go_sem, z0, z1, z2]
  have q := ((HR.out.set (p := ⟨w.heap.size + 1 + 1, 0, none⟩) (.int .i64 R) HF.out).set (p := ⟨w.heap.size + 1 + 1, 1, none⟩) (.int .i64 C) HF.out).set (p := ⟨w.heap.size + 1 + 1, 2, none⟩) (.slice p' n cap') HF.out
  exact ⟨p', cap', ⟨rfl, rfl⟩, ⟨⟨HX.out.1, HX.out.2.1, q.q⟩, fun b hb => by have := HF.out b hb; omega⟩, HS.out.bl⟩
theorem mAddN' (R C : Nat) (p q : Option Addr) (n cap cap2 : Nat) (f g : Nat → Nat → En) (w : World) (hx : Mx 4 cellsN w R C p n cap f) (hy : Mx 4 cellsN w R C q n cap2 g) :
    Calls Tryz.prog 199 #[mV R C p n cap, mV R C q n cap2] w fun e w' => ∃ p' cap', e = .returned (.tuple #[mV R C p' n cap', .bool true]) ∧ (Mx 4 cellsN w' R C p' n cap' (fun i k => addE (f i k) (g i k)) ∧ Fresh w.heap.size (.slice p' n cap')) ∧ Bl w w' := by
  obtain ⟨W, hW⟩ : ∃ W, W = ((w.alloc (.cells #[.int .i64 R, .int .i64 C, .slice p n cap] 48)).alloc (.cells #[.int .i64 R, .int .i64 C, .slice q n cap2] 48)).alloc (.cells #[.int .i64 0, .int .i64 0, .slice none 0 0] 48) := ⟨_, rfl⟩
  have b0 : Bl w W := by rw [hW]; exact (((Bl.refl _).alloc _).alloc _).alloc _
  have mz0 : MBox W (w.heap.size + 1 + 1) 0 0 none 0 0 := by rw [hW]; have := MBox.new ((w.alloc (.cells #[.int .i64 R, .int .i64 C, .slice p n cap] 48)).alloc (.cells #[.int .i64 R, .int .i64 C, .slice q n cap2] 48)) 0 0 none 0 0 48; rw [World.size_alloc, World.size_alloc] at this; exact this
  have hs0 : W.heap.size = w.heap.size + 1 + 1 + 1 := by rw [hW]; simp
  have E := hideP (mEachN 77 addE (enters_of Tryz.func77 (by kernel_rfl) rfl) R C p q n cap cap2 f g W (hx.later b0) (hy.later b0) (fun va vb xs ys w h1 h2 h3 h4 => vAddN' va vb xs ys w h1 h2 h3 h4))
  have HW := hideP hW
  clear hW hx hy
  go_enter Tryz.func199, Tryz.ntmps199
  go_wp2_with fail
  rw [← HW.out]
  refine E.out.mono ?_
  rintro e w1 ⟨p', cap', rfl, ⟨hm, hf⟩, h1⟩
  have HM := hideP hm
  have HF := hideP (show Fresh (w.heap.size + 1 + 1 + 1) (.slice p' n cap') from fun b hb => by have := hf b hb; omega)
  obtain ⟨z0, z1, z2, y0, y1, y2, ltz⟩ := mz0.later h1
  clear hm hf E
  go_wp2
  simp [bodyPost, results, Tryz.results199, go_sem, z0, z1, z2]
  exact ⟨p', cap', ⟨rfl, rfl⟩, ⟨Mx.put3 HM.out HF.out _ _ _, fun b hb => by have := HF.out b hb; omega⟩, Bl.put3 (b0.trans h1) (by omega) _ _ _⟩
theorem mAddN (R C : Nat) (p q : Option Addr) (n cap cap2 : Nat) (f g : Nat → Nat → En) (w : World) (hx : Mx 4 cellsN w R C p n cap f) (hy : Mx 4 cellsN w R C q n cap2 g) :
    Calls Tryz.prog 199 #[mV R C p n cap, mV R C q n cap2] w fun e w' => ∃ p' cap', e = .returned (.tuple #[mV R C p' n cap', .bool true]) ∧ Mx 4 cellsN w' R C p' n cap' (fun i k => addE (f i k) (g i k)) ∧ Bl w w' :=
  (mAddN' R C p q n cap cap2 f g w hx hy).mono fun _ _ ⟨p', c', h1, h2, h3⟩ => ⟨p', c', h1, h2.1, h3⟩
theorem mSubN' (R C : Nat) (p q : Option Addr) (n cap cap2 : Nat) (f g : Nat → Nat → En) (w : World) (hx : Mx 4 cellsN w R C p n cap f) (hy : Mx 4 cellsN w R C q n cap2 g) :
    Calls Tryz.prog 200 #[mV R C p n cap, mV R C q n cap2] w fun e w' => ∃ p' cap', e = .returned (.tuple #[mV R C p' n cap', .bool true]) ∧ (Mx 4 cellsN w' R C p' n cap' (fun i k => subE (f i k) (g i k)) ∧ Fresh w.heap.size (.slice p' n cap')) ∧ Bl w w' := by
  obtain ⟨W, hW⟩ : ∃ W, W = ((w.alloc (.cells #[.int .i64 R, .int .i64 C, .slice p n cap] 48)).alloc (.cells #[.int .i64 R, .int .i64 C, .slice q n cap2] 48)).alloc (.cells #[.int .i64 0, .int .i64 0, .slice none 0 0] 48) := ⟨_, rfl⟩
  have b0 : Bl w W := by rw [hW]; exact (((Bl.refl _).alloc _).alloc _).alloc _
  have mz0 : MBox W (w.heap.size + 1 + 1) 0 0 none 0 0 := by rw [hW]; have := MBox.new ((w.alloc (.cells #[.int .i64 R, .int .i64 C, .slice p n cap] 48)).alloc (.cells #[.int .i64 R, .int .i64 C, .slice q n cap2] 48)) 0 0 none 0 0 48; rw [World.size_alloc, World.size_alloc] at this; exact this
  have hs0 : W.heap.size = w.heap.size + 1 + 1 + 1 := by rw [hW]; simp
  have E := hideP (mEachN 163 subE (enters_of Tryz.func163 (by kernel_rfl) rfl) R C p q n cap cap2 f g W (hx.later b0) (hy.later b0) (fun va vb xs ys w h1 h2 h3 h4 => vSubN' va vb xs ys w h1 h2 h3 h4))
  have HW := hideP hW
  clear hW hx hy
  go_enter Tryz.func200, Tryz.ntmps200
  go_wp2_with fail
  rw [← HW.out]
  refine E.out.mono ?_
  rintro e w1 ⟨p', cap', rfl, ⟨hm, hf⟩, h1⟩
  have HM := hideP hm
  have HF := hideP (show Fresh (w.heap.size + 1 + 1 + 1) (.slice p' n cap') from fun b hb => by have := hf b hb; omega)
  obtain ⟨z0, z1, z2, y0, y1, y2, ltz⟩ := mz0.later h1
  clear hm hf E
  go_wp2
  simp [bodyPost, results, Tryz.results200, go_sem, z0, z1, z2]
  exact ⟨p', cap', ⟨rfl, rfl⟩, ⟨Mx.put3 HM.out HF.out _ _ _, fun b hb => by have := HF.out b hb; omega⟩, Bl.put3 (b0.trans h1) (by omega) _ _ _⟩
theorem mSubN (R C : Nat) (p q : Option Addr) (n cap cap2 : Nat) (f g : Nat → Nat → En) (w : World) (hx : Mx 4 cellsN w R C p n cap f) (hy : Mx 4 cellsN w R C q n cap2 g) :
    Calls Tryz.prog 200 #[mV R C p n cap, mV R C q n cap2] w fun e w' => ∃ p' cap', e = .returned (.tuple #[mV R C p' n cap', .bool true]) ∧ Mx 4 cellsN w' R C p' n cap' (fun i k => subE (f i k) (g i k)) ∧ Bl w w' :=
  (mSubN' R C p q n cap cap2 f g w hx hy).mono fun _ _ ⟨p', c', h1, h2, h3⟩ => ⟨p', c', h1, h2.1, h3⟩
end Go.Proofs.YtljmggemdkfbiaaGreat

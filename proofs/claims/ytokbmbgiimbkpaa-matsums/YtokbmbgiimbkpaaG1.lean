/- Four rows of whole numbers that grow beside one another; an append as one operation; the numbers that MatSums asks for (layer 6's laws). -/
import Derived.Test.YtokbmbgiimbkpaaMaDF
import Derived.Test.YtokbmbgiimbkpaaMaGF
import Derived.Laws.EntriesVeiled
import Derived.Test.YtokbmbgiimbkpaaMaI
import Derived.Test.YtokbmbgiimbkpaaMaBF
import Derived.Test.YtokbmbgiimbkpaaMaH
import Derived.Maps.AppendAt
/- Contracts of mat's each, Add, Sub, of fractions (layer 6). -/
namespace Go.Proofs.Ytokbmbgiimbkpaa
open Go.RowKit
set_option linter.unusedSimpArgs false
set_option linter.unusedVariables false

/-- What the last region of each reads. -/
structure EachS (w : World) (R C : Int) (p q : Option Addr) (n cap cap2 : Nat) (u : World) : Prop where
  x : MBox u w.heap.size R C p n cap
  y : MBox u (w.heap.size + 1) R C q n cap2
  z : ∃ r' c' p' n' k', MBox u (w.heap.size + 1 + 1) r' c' p' n' k'
  bl : Bl w u
theorem Rq.set {α : Type} {s : Nat} {c : α → List Value} {w : World} {v : Value} {xs : List α} (h : Rq s c w v xs) {p : Addr} (u : Value) (hf : Fresh (p.block + 1) v) : Rq s c (w.setCell p u) v xs := by
  rcases h with h | ⟨b, o, cap, rfl, hc, hb, hx⟩
  · exact .inl h
  · have hne : p.block + 1 ≤ b := hf b rfl
    have hk : (w.setCell p u).heap[b]? = w.heap[b]? := Below.heap_setCell _ _ _ b (by omega)
    exact .inr ⟨b, o, cap, rfl, hc, by simpa using hb, fun j x hj k v hv => (World.cell?_of_block (a := ⟨b, o + j * s + k, none⟩) hk).trans (hx j x hj k v hv)⟩
theorem Mx.put3 {α : Type} {s : Nat} {c : α → List Value} {w : World} {R C : Nat} {p : Option Addr} {n cap b : Nat} {f : Nat → Nat → α} (h : Mx s c w R C p n cap f) (hf : Fresh (b + 1) (.slice p n cap)) (v0 v1 v2 : Value) : Mx s c (((w.setCell ⟨b, 0, none⟩ v0).setCell ⟨b, 1, none⟩ v1).setCell ⟨b, 2, none⟩ v2) R C p n cap f :=
  ⟨h.1, h.2.1, ((h.2.2.set (p := ⟨b, 0, none⟩) v0 hf).set (p := ⟨b, 1, none⟩) v1 hf).set (p := ⟨b, 2, none⟩) v2 hf⟩
theorem mbox_set {w : World} {b b' : Nat} {r c : Int} {p : Option Addr} {n cap : Nat} (h : MBox w b r c p n cap) (hne : b ≠ b') (o : Nat) (v : Value) : MBox (w.setCell ⟨b', o, none⟩ v) b r c p n cap :=
  mbox_block h (Below.heap_setCell _ _ _ b (by show b ≠ b'; exact hne)) (by simp)
theorem EachS.later {w : World} {R C : Int} {p q : Option Addr} {n cap cap2 : Nat} {u u' : World} (h : EachS w R C p q n cap cap2 u) (k : Bl u u') : EachS w R C p q n cap cap2 u' :=
  ⟨h.x.later k, h.y.later k, by obtain ⟨a, b, c, d, e, m⟩ := h.z; exact ⟨a, b, c, d, e, m.later k⟩, h.bl.trans k⟩
theorem EachS.stored {w : World} {R C : Int} {p q : Option Addr} {n cap cap2 : Nat} {u : World} (h : EachS w R C p q n cap cap2 u) (r' c' : Int) (p' : Option Addr) (n' cap' : Nat) :
    EachS w R C p q n cap cap2 (((u.setCell ⟨w.heap.size + 1 + 1, 0, none⟩ (.int .i64 r')).setCell ⟨w.heap.size + 1 + 1, 1, none⟩ (.int .i64 c')).setCell ⟨w.heap.size + 1 + 1, 2, none⟩ (.slice p' n' cap')) :=
  ⟨mbox_set (mbox_set (mbox_set h.x (by omega) _ _) (by omega) _ _) (by omega) _ _, mbox_set (mbox_set (mbox_set h.y (by omega) _ _) (by omega) _ _) (by omega) _ _, by obtain ⟨a, b, c, d, e, m⟩ := h.z; exact ⟨_, _, _, _, _, m.fill r' c' p' n' cap'⟩, Bl.put3 h.bl (by omega) _ _ _⟩
set_option maxRecDepth 100000 in
set_option maxHeartbeats 2000000 in
theorem mEach_any (G : Nat) (op : Fr → Fr → Fr) (eg : ∀ (args : Array Value) (w : World), (callFunc G args).run Try.prog w = .ok (.enter G args) w) (R C : Nat) (p q : Option Addr) (n cap cap2 : Nat) (f g : Nat → Nat → Fr) (w : World) (hx : Mx 3 cellsF w R C p n cap f) (hy : Mx 3 cellsF w R C q n cap2 g)
    (hG : ∀ (va vb : Value) (xs ys : List Fr) (w : World), Rq 3 cellsF w va xs → Rq 3 cellsF w vb ys → xs.length ≤ 1000000 → ys.length ≤ 1000000 → Calls Try.prog G #[va, vb] w fun e w' => ∃ u, e = .returned u ∧ Rw 3 cellsF w' u (List.zipWith op xs ys) ∧ Fresh w.heap.size u ∧ Bl w w') :
    Calls Try.prog 42 #[mV R C p n cap, mV R C q n cap2, .func (.func G) #[] #[]] w fun e w' => ∃ p' cap', e = .returned (.tuple #[mV R C p' n cap', .bool true]) ∧ (Mx 3 cellsF w' R C p' n cap' (fun i k => op (f i k) (g i k)) ∧ Fresh w.heap.size (.slice p' n cap')) ∧ Bl w w' := by
  have hfx := hx.fit
  have fm : Try.prog.follows .mixedOrders = true := by kernel_rfl
  obtain ⟨W, hW⟩ : ∃ W, W = ((w.alloc (.cells #[.int .i64 R, .int .i64 C, .slice p n cap] 27)).alloc (.cells #[.int .i64 R, .int .i64 C, .slice q n cap2] 27)).alloc (.cells #[.int .i64 0, .int .i64 0, .slice none 0 0] 27) := ⟨_, rfl⟩
  have b0 : Bl w W := by rw [hW]; exact (((Bl.refl _).alloc _).alloc _).alloc _
  have mx0 : MBox W w.heap.size R C p n cap := by rw [hW]; exact (MBox.new w _ _ _ _ _ _).later (((Bl.refl _).alloc _).alloc _)
  have my0 : MBox W (w.heap.size + 1) R C q n cap2 := by rw [hW]; have := (MBox.new (w.alloc (.cells #[.int .i64 R, .int .i64 C, .slice p n cap] 27)) R C q n cap2 27); rw [World.size_alloc] at this; exact this.later ((Bl.refl _).alloc _)
  have mz0 : MBox W (w.heap.size + 1 + 1) 0 0 none 0 0 := by rw [hW]; have := MBox.new ((w.alloc (.cells #[.int .i64 R, .int .i64 C, .slice p n cap] 27)).alloc (.cells #[.int .i64 R, .int .i64 C, .slice q n cap2] 27)) 0 0 none 0 0 27; rw [World.size_alloc, World.size_alloc] at this; exact this
  have hs0 : W.heap.size = w.heap.size + 1 + 1 + 1 := by rw [hW]; simp
  have HX := hideP hx
  have HY := hideP hy
  have HG := hideP hG
  have HW := hideP hW
  clear hW hx hy hG
  go_enter Try.func42, Try.ntmps42
  go_wp2_with fail
  rw [← HW.out]
  refine (mRightF _ _ _ _ _ _).mono ?_
  rintro e w1 ⟨rfl, h1⟩
  rw [hfx]
  obtain ⟨d0, d1, d2, u0, u1, u2, ltm⟩ := my0.later h1
  go_wp2_with fail
  refine (mRightF _ _ _ _ _ _).mono ?_
  rintro e w2 ⟨rfl, h2⟩
  rw [hfx]
  clear d0 d1 d2 u0 u1 u2 ltm
  have hB2 : Bl W w2 := h1.trans h2
  obtain ⟨c0, c1, c2, f0, f1, f2, lt⟩ := mx0.later hB2
  obtain ⟨d0, d1, d2, u0, u1, u2, ltm⟩ := my0.later hB2
  go_wp2_with fail
  clear c0 c1 c2 f0 f1 f2 lt d0 d1 d2 u0 u1 u2 ltm
  have ES : EachS w R C p q n cap cap2 w2 := ⟨mx0.later hB2, my0.later hB2, ⟨_, _, _, _, _, mz0.later hB2⟩, b0.trans hB2⟩
  have CL := hideP (fun (u : World) (hu : Bl w u) => (HG.out (.slice p n cap) (.slice q n cap2) (mk R C f) (mk R C g) u (HX.out.2.2.later hu) (HY.out.2.2.later hu) (by rw [mk_len]; have := HX.out.1.lt; omega) (by rw [mk_len]; have := HX.out.1.lt; omega)).mono (R' := fun e w' => ∃ p' cap', e = .returned (.slice p' n cap') ∧ (Rw 3 cellsF w' (.slice p' n cap') (mk R C (fun i k => op (f i k) (g i k))) ∧ Fresh u.heap.size (.slice p' n cap')) ∧ Bl u w') (by
    rintro e w' ⟨v, rfl, hr, hf, hb⟩
    rw [mk_zip] at hr
    obtain ⟨p', cap', rfl, _, _⟩ := hr.cut
    rw [mk_len, ← HX.out.2.1] at hr hf ⊢
    exact ⟨p', cap', rfl, ⟨hr, hf⟩, hb⟩))
  have KP := hideP (fun (u : World) (hu : EachS w R C p q n cap cap2 u) => (show u.cell? ⟨w.heap.size, 0, none⟩ = some (.int .i64 R) ∧ u.cell? ⟨w.heap.size, 1, none⟩ = some (.int .i64 C) ∧ u.cell? ⟨w.heap.size, 2, none⟩ = some (.slice p n cap) ∧ u.cell? ⟨w.heap.size + 1, 2, none⟩ = some (.slice q n cap2) ∧ EachS w R C p q n cap cap2 u from ⟨hu.x.c0, hu.x.c1, hu.x.c2, hu.y.c2, hu⟩))
  have HES := hideP ES
  clear ES mx0 my0 mz0
  go_region_held3 (fun u => u.cell? ⟨w.heap.size, 0, none⟩ = some (.int .i64 R) ∧ u.cell? ⟨w.heap.size, 1, none⟩ = some (.int .i64 C) ∧ u.cell? ⟨w.heap.size, 2, none⟩ = some (.slice p n cap) ∧ u.cell? ⟨w.heap.size + 1, 2, none⟩ = some (.slice q n cap2) ∧ EachS w R C p q n cap cap2 u)
    (first | exact KP.out _ ((HES.out.later (show Bl w2 w3 by repeat (first | exact Bl.refl _ | apply Bl.drew | (refine Bl.trans ?_ (by assumption))))).stored _ _ _ _ _) | exact KP.out _ (HES.out.later (by repeat (first | exact Bl.refl _ | apply Bl.drew | (refine Bl.trans ?_ (by assumption))))))
    (first
      | (refine (CL.out _ (HES.out.later (by repeat (first | exact Bl.refl _ | apply Bl.drew | (refine Bl.trans ?_ (by assumption))))).bl).mono ?_; rintro e w3 ⟨p', cap', rfl, ⟨hR, hF⟩, h3⟩; obtain ⟨a1, a2, a3, a4, a5, ⟨z0, z1, z2, y0, y1, y2, ltz⟩⟩ := (HES.out.later (show Bl w2 w3 by repeat (first | exact Bl.refl _ | apply Bl.drew | (refine Bl.trans ?_ (by assumption))))).z))
  have hF' : Fresh (w.heap.size + 1 + 1 + 1) (.slice p' n cap') := fun b hb => by
    have h1 := hF b hb
    have h2 := hB2.size
    have h4 : w2.heap.size ≤ w2.drew.heap.size := Nat.le_refl _
    omega
  have HR := hideP hR
  have HF := hideP hF'
  clear hR hF hF'
  rename_i hh
  obtain ⟨_, _, _, _, hS⟩ := hh
  have HS := hideP hS
  clear hS
  go_wp2
  simp [bodyPost, results, Try.results42, go_sem, z0, z1, z2]
  have q := ((HR.out.set (p := ⟨w.heap.size + 1 + 1, 0, none⟩) (.int .i64 R) HF.out).set (p := ⟨w.heap.size + 1 + 1, 1, none⟩) (.int .i64 C) HF.out).set (p := ⟨w.heap.size + 1 + 1, 2, none⟩) (.slice p' n cap') HF.out
  exact ⟨p', cap', ⟨rfl, rfl⟩, ⟨⟨HX.out.1, HX.out.2.1, q.q⟩, fun b hb => by have := HF.out b hb; omega⟩, HS.out.bl⟩
theorem mAdd_any (R C : Nat) (p q : Option Addr) (n cap cap2 : Nat) (f g : Nat → Nat → Fr) (w : World) (hx : Mx 3 cellsF w R C p n cap f) (hy : Mx 3 cellsF w R C q n cap2 g) :
    Calls Try.prog 22 #[mV R C p n cap, mV R C q n cap2] w fun e w' => ∃ p' cap', e = .returned (.tuple #[mV R C p' n cap', .bool true]) ∧ Mx 3 cellsF w' R C p' n cap' (fun i k => addR (f i k) (g i k)) ∧ Bl w w' := by
  obtain ⟨W, hW⟩ : ∃ W, W = ((w.alloc (.cells #[.int .i64 R, .int .i64 C, .slice p n cap] 27)).alloc (.cells #[.int .i64 R, .int .i64 C, .slice q n cap2] 27)).alloc (.cells #[.int .i64 0, .int .i64 0, .slice none 0 0] 27) := ⟨_, rfl⟩
  have b0 : Bl w W := by rw [hW]; exact (((Bl.refl _).alloc _).alloc _).alloc _
  have mz0 : MBox W (w.heap.size + 1 + 1) 0 0 none 0 0 := by rw [hW]; have := MBox.new ((w.alloc (.cells #[.int .i64 R, .int .i64 C, .slice p n cap] 27)).alloc (.cells #[.int .i64 R, .int .i64 C, .slice q n cap2] 27)) 0 0 none 0 0 27; rw [World.size_alloc, World.size_alloc] at this; exact this
  have hs0 : W.heap.size = w.heap.size + 1 + 1 + 1 := by rw [hW]; simp
  have E := hideP (mEach_any 43 addR (enters_of Try.func43 (by kernel_rfl) rfl) R C p q n cap cap2 f g W (hx.later b0) (hy.later b0) (fun va vb xs ys w h1 h2 h3 h4 => vAddF' va vb xs ys w h1 h2 h3 h4))
  have HW := hideP hW
  clear hW hx hy
  go_enter Try.func22, Try.ntmps22
  go_wp2_with fail
  rw [← HW.out]
  refine E.out.mono ?_
  rintro e w1 ⟨p', cap', rfl, ⟨hm, hf⟩, h1⟩
  have HM := hideP hm
  have HF := hideP (show Fresh (w.heap.size + 1 + 1 + 1) (.slice p' n cap') from fun b hb => by have := hf b hb; omega)
  obtain ⟨z0, z1, z2, y0, y1, y2, ltz⟩ := mz0.later h1
  clear hm hf E
  go_wp2
  simp [bodyPost, results, Try.results22, go_sem, z0, z1, z2]
  exact ⟨p', cap', ⟨rfl, rfl⟩, Mx.put3 HM.out HF.out _ _ _, Bl.put3 (b0.trans h1) (by omega) _ _ _⟩
theorem mSub_any (R C : Nat) (p q : Option Addr) (n cap cap2 : Nat) (f g : Nat → Nat → Fr) (w : World) (hx : Mx 3 cellsF w R C p n cap f) (hy : Mx 3 cellsF w R C q n cap2 g) :
    Calls Try.prog 23 #[mV R C p n cap, mV R C q n cap2] w fun e w' => ∃ p' cap', e = .returned (.tuple #[mV R C p' n cap', .bool true]) ∧ Mx 3 cellsF w' R C p' n cap' (fun i k => subR (f i k) (g i k)) ∧ Bl w w' := by
  obtain ⟨W, hW⟩ : ∃ W, W = ((w.alloc (.cells #[.int .i64 R, .int .i64 C, .slice p n cap] 27)).alloc (.cells #[.int .i64 R, .int .i64 C, .slice q n cap2] 27)).alloc (.cells #[.int .i64 0, .int .i64 0, .slice none 0 0] 27) := ⟨_, rfl⟩
  have b0 : Bl w W := by rw [hW]; exact (((Bl.refl _).alloc _).alloc _).alloc _
  have mz0 : MBox W (w.heap.size + 1 + 1) 0 0 none 0 0 := by rw [hW]; have := MBox.new ((w.alloc (.cells #[.int .i64 R, .int .i64 C, .slice p n cap] 27)).alloc (.cells #[.int .i64 R, .int .i64 C, .slice q n cap2] 27)) 0 0 none 0 0 27; rw [World.size_alloc, World.size_alloc] at this; exact this
  have hs0 : W.heap.size = w.heap.size + 1 + 1 + 1 := by rw [hW]; simp
  have E := hideP (mEach_any 44 subR (enters_of Try.func44 (by kernel_rfl) rfl) R C p q n cap cap2 f g W (hx.later b0) (hy.later b0) (fun va vb xs ys w h1 h2 h3 h4 => vSubF' va vb xs ys w h1 h2 h3 h4))
  have HW := hideP hW
  clear hW hx hy
  go_enter Try.func23, Try.ntmps23
  go_wp2_with fail
  rw [← HW.out]
  refine E.out.mono ?_
  rintro e w1 ⟨p', cap', rfl, ⟨hm, hf⟩, h1⟩
  have HM := hideP hm
  have HF := hideP (show Fresh (w.heap.size + 1 + 1 + 1) (.slice p' n cap') from fun b hb => by have := hf b hb; omega)
  obtain ⟨z0, z1, z2, y0, y1, y2, ltz⟩ := mz0.later h1
  clear hm hf E
  go_wp2
  simp [bodyPost, results, Try.results23, go_sem, z0, z1, z2]
  exact ⟨p', cap', ⟨rfl, rfl⟩, Mx.put3 HM.out HF.out _ _ _, Bl.put3 (b0.trans h1) (by omega) _ _ _⟩
end Go.Proofs.Ytokbmbgiimbkpaa

/- An append of a matrix's row to a row, of fractions: a region that draws its order (layer 6). -/
namespace Go.Proofs.Ytokbmbgiimbkpaa
open Go.RowKit Go.Shelf
set_option linter.unusedSimpArgs false
set_option linter.unusedVariables false

theorem flat_cellsF_len (xs : List Fr) : (xs.flatMap cellsF).length = xs.length * 3 := flat_len cellsF_len xs
theorem Try.loadMF (B : Nat) (r c : Int) (p : Option Addr) (n cap : Nat) (u : World) (h : MBox u B r c p n cap) : (Instr.loadAt 27 (.pointer (some ⟨B, 0, none⟩))).run Try.prog u = .ok (mV r c p n cap) u := by
  simp [go_sem, h.c0, h.c1, h.c2]
/-- Between two of its operations. -/
def RowI (d : Nat) (a : Act) (W : World) (v v1 v2 : Value) (C : Nat) (row : List Fr) (base : Nat) (xs : List Fr) (B : Nat) (L : Nat → Bool) (act : Act) (u : World) : Prop :=
  a.tmps.size = act.tmps.size ∧ (∀ s, s < d → act.eval (.tmp s) = a.eval (.tmp s)) ∧ (L 3 = true → L 1 = true ∧ L 2 = true) ∧ (L 4 = true → L 0 = true ∧ L 3 = true) ∧ (L 5 = true → L 4 = true)
    ∧ (L 4 = false → Bl W u ∧ (L 0 = true → act.eval (.tmp d) = v) ∧ (L 1 = true → act.eval (.tmp (d + 1)) = v1) ∧ (L 2 = true → act.eval (.tmp (d + 2)) = v2) ∧ (L 3 = true → ∃ p' cap', act.eval (.tmp (d + 3)) = .slice p' C cap' ∧ Rw 3 cellsF u (.slice p' C cap') row))
    ∧ (L 4 = true → ∃ u0 w5 g' cap', Bl W u0 ∧ u0.grownBy w5 v.ownBlock ∧ w5.ownsRow base 31 3 (.slice (some ⟨g', 0, none⟩) (xs.length + C) cap') (xs.length + C) (xs.flatMap cellsF ++ row.flatMap cellsF) ∧ (some g' = v.ownBlock ∨ g' = u0.heap.size)
        ∧ (L 5 = false → u = w5 ∧ act.eval (.tmp (d + 4)) = .slice (some ⟨g', 0, none⟩) (xs.length + C) cap') ∧ (L 5 = true → u = w5.setCell ⟨B, 0, none⟩ (.slice (some ⟨g', 0, none⟩) (xs.length + C) cap')))
theorem ownsRow_some {w : World} {base s m : Nat} {e : TypeId} {v : Value} {l : List Value} (h : w.ownsRow base e s v m l) (hm : 0 < m) : ∃ g cap, v = .slice (some ⟨g, 0, none⟩) m cap := by
  rcases h.2 with ⟨_, h0⟩ | ⟨g, cap, cur, rfl, _⟩
  · omega
  · exact ⟨g, cap, rfl⟩
set_option maxHeartbeats 1000000 in
theorem rowAppend {F : Fence} {m : Nat} {ops : Array Oper} {o0 o1 o2 o3 o4 o5 : Oper} {Q : Exit → Act → World → Prop} {a : Act} {W : World} {id : Nat} (hops : ops = #[o0, o1, o2, o3, o4, o5]) (hlow : lowB ops = true) (d sL fD : Nat) (ts : Array TypeId) (hsz : d + 5 ≤ a.tmps.size) (hsL : sL < d)
    (g0 : o0.guard = none ∧ o0.dst = some d ∧ o0.op = .load 25 (.tmp sL)) (g1 : o1.guard = none ∧ o1.dst = some (d + 1)) (g2 : o2.guard = none ∧ o2.dst = some (d + 2))
    (g3 : o3.guard = none ∧ o3.dst = some (d + 3) ∧ o3.op = .call { callee := .value (.func fD), args := #[.tmp (d + 1), .tmp (d + 2)], argTypes := ts })
    (g4 : o4.guard = none ∧ o4.dst = some (d + 4) ∧ o4.op = .call { callee := .builtin .append, args := #[.tmp d, .tmp (d + 3)], argTypes := #[25, 25] })
    (g5 : o5.guard = none ∧ o5.dst = none ∧ o5.op = .store 25 (.tmp sL) (.tmp (d + 4)))
    (e3 : (⟨1, .data⟩ : Edge) ∈ o3.after ∧ (⟨2, .data⟩ : Edge) ∈ o3.after) (e4 : (⟨0, .data⟩ : Edge) ∈ o4.after ∧ (⟨3, .data⟩ : Edge) ∈ o4.after) (e5 : (⟨4, .data⟩ : Edge) ∈ o5.after)
    (v1 v2 : Value) (h1 : ∀ (act : Act) (u : World) (K : Act → World → Prop), (∀ s, s < d → act.eval (.tmp s) = a.eval (.tmp s)) → Bl W u → K (act.put (some (d + 1)) v1) u → Oper.wpIn F m Try.prog o1 act u K Q)
    (h2 : ∀ (act : Act) (u : World) (K : Act → World → Prop), (∀ s, s < d → act.eval (.tmp s) = a.eval (.tmp s)) → Bl W u → K (act.put (some (d + 2)) v2) u → Oper.wpIn F m Try.prog o2 act u K Q)
    (hF : F.fn fD) (hdep : F.depth.isSome = true → 1 ≤ m) (eg : ∀ args w, (callFunc fD args).run Try.prog w = .ok (.enter fD args) w) (C : Nat) (hC0 : 0 < C) (hC1 : C ≤ 1000) (row : List Fr) (hrl : row.length = C)
    (hC : ∀ u, Bl W u → CallsIn F (m - 1) Try.prog fD #[v1, v2] u fun e w' => ∃ p' cap', e = .returned (.slice p' C cap') ∧ Rw 3 cellsF w' (.slice p' C cap') row ∧ Bl u w')
    (B : Nat) (hB : a.eval (.tmp sL) = .pointer (some ⟨B, 0, none⟩)) (v : Value) (hv : Boxed W B 25 v) (base : Nat) (xs : List Fr) (hown : W.ownsRow base 31 3 v xs.length (xs.flatMap cellsF)) (hlen : xs.length ≤ 100000) (hbase : base ≤ W.heap.size)
    (fin : ∀ act u0 w5 g' cap', Bl W u0 → u0.grownBy w5 v.ownBlock → w5.ownsRow base 31 3 (.slice (some ⟨g', 0, none⟩) (xs.length + C) cap') (xs.length + C) (xs.flatMap cellsF ++ row.flatMap cellsF) → (some g' = v.ownBlock ∨ g' = u0.heap.size) → Q .normal act (w5.setCell ⟨B, 0, none⟩ (.slice (some ⟨g', 0, none⟩) (xs.length + C) cap'))) :
    (Code.region id ops true).wpIn F m Try.prog Q a W := by
  obtain ⟨i0, hi, hz0, hz1, hz2⟩ := info_parts Try.info_F
  have fm : Try.prog.follows .mixedOrders = true := by kernel_rfl
  refine region_facts fm (lowB_low hlow) (RowI d a W v v1 v2 C row base xs B) ?_ ?_ ?_
  · exact ⟨rfl, fun _ _ => rfl, nofun, nofun, nofun, fun _ => ⟨(Bl.refl _).drew, nofun, nofun, nofun, nofun⟩, nofun⟩
  · intro L act u i o ⟨hs, hfr, c3, c4, c5, hpre, hpost⟩ ho hLi hall
    have hlt : i < 6 := by have := (Array.getElem?_eq_some_iff.1 ho).1; rw [hops] at this; simpa using this
    have sv : ∀ (e : Nat) (x : Value), e < act.tmps.size → (act.put (some e) x).eval (.tmp e) = x := fun e x h => eval_put_same h
    have ne4 : (L 4 = true → False) → L 4 = false := fun h => by cases hh : L 4 <;> simp_all
    have fr : ∀ (e : Nat) (x : Value), d ≤ e → ∀ s, s < d → (act.put (some e) x).eval (.tmp s) = a.eval (.tmp s) := fun e x he s hs => by rw [eval_put_other (by omega)]; exact hfr s hs
    rcases (by omega : i = 0 ∨ i = 1 ∨ i = 2 ∨ i = 3 ∨ i = 4 ∨ i = 5) with rfl | rfl | rfl | rfl | rfl | rfl
    · obtain rfl : o = o0 := by rw [hops] at ho; simpa using ho.symm
      have l4 : L 4 = false := ne4 fun h => by rw [(c4 h).1] at hLi; cases hLi
      obtain ⟨hb, p0, p1, p2, p3⟩ := hpre l4
      refine step_wp ho g0.1 (load_wp _ _ g0.2.2 (v := v) (by rw [hfr _ hsL, hB]; exact Try.load1F B v u (boxed_bl hv hb).cell) ?_)
      rw [g0.2.1]
      refine ⟨by rw [size_put]; exact hs, fr _ _ (Nat.le_refl _), by simpa using c3, by simp [l4], by simpa using c5, fun _ => ⟨hb, fun _ => sv _ _ (by omega), ?_, ?_, ?_⟩, by simp [l4]⟩
      all_goals (simp only [Nat.reduceEqDiff, Nat.reduceBEq, Bool.or_false]; intro h; rw [eval_put_other (by omega)])
      · exact p1 h
      · exact p2 h
      · exact p3 h
    · obtain rfl : o = o1 := by rw [hops] at ho; simpa using ho.symm
      have l3 : L 3 = false := by cases hh : L 3 <;> simp_all
      have l4 : L 4 = false := ne4 fun h => by rw [(c4 h).2] at l3; cases l3
      obtain ⟨hb, p0, p1, p2, p3⟩ := hpre l4
      refine step_wp ho g1.1 (h1 act u _ hfr hb ?_)
      refine ⟨by rw [size_put]; exact hs, fr _ _ (by omega), by simp [l3], by simp [l4], by simpa using c5, fun _ => ⟨hb, ?_, fun _ => sv _ _ (by omega), ?_, by simp [l3]⟩, by simp [l4]⟩
      all_goals (simp only [Nat.reduceEqDiff, Nat.reduceBEq, Bool.or_false]; intro h; rw [eval_put_other (by omega)])
      · exact p0 h
      · exact p2 h
    · obtain rfl : o = o2 := by rw [hops] at ho; simpa using ho.symm
      have l3 : L 3 = false := by cases hh : L 3 <;> simp_all
      have l4 : L 4 = false := ne4 fun h => by rw [(c4 h).2] at l3; cases l3
      obtain ⟨hb, p0, p1, p2, p3⟩ := hpre l4
      refine step_wp ho g2.1 (h2 act u _ hfr hb ?_)
      refine ⟨by rw [size_put]; exact hs, fr _ _ (by omega), by simp [l3], by simp [l4], by simpa using c5, fun _ => ⟨hb, ?_, ?_, fun _ => sv _ _ (by omega), by simp [l3]⟩, by simp [l4]⟩
      all_goals (simp only [Nat.reduceEqDiff, Nat.reduceBEq, Bool.or_false]; intro h; rw [eval_put_other (by omega)])
      · exact p0 h
      · exact p1 h
    · obtain rfl : o = o3 := by rw [hops] at ho; simpa using ho.symm
      have l1 : L 1 = true := hall _ e3.1 rfl
      have l2 : L 2 = true := hall _ e3.2 rfl
      have l4 : L 4 = false := ne4 fun h => by rw [(c4 h).2] at hLi; cases hLi
      obtain ⟨hb, p0, p1, p2, p3⟩ := hpre l4
      refine step_wp ho g3.1 (call2_wp fD _ _ _ g3.2.2 hF hdep eg (by rw [p1 l1, p2 l2]; exact hC u hb) ?_)
      rintro e w' ⟨p', cap', rfl, hrw, hb'⟩
      refine ⟨_, rfl, ?_⟩
      rw [g3.2.1]
      refine ⟨by rw [size_put]; exact hs, fr _ _ (by omega), by simp [l1, l2], by simp [l4], by simpa using c5, fun _ => ⟨hb.trans hb', ?_, ?_, ?_, fun _ => ⟨p', cap', sv _ _ (by omega), hrw⟩⟩, by simp [l4]⟩
      all_goals (simp only [Nat.reduceEqDiff, Nat.reduceBEq, Bool.or_false]; intro h; rw [eval_put_other (by omega)])
      · exact p0 h
      · exact p1 h
      · exact p2 h
    · obtain rfl : o = o4 := by rw [hops] at ho; simpa using ho.symm
      have l0 : L 0 = true := hall _ e4.1 rfl
      have l3 : L 3 = true := hall _ e4.2 rfl
      have l5 : L 5 = false := by cases hh : L 5 <;> simp_all
      obtain ⟨hb, p0, p1, p2, p3⟩ := hpre hLi
      obtain ⟨pr, cr, hg, hrw⟩ := p3 l3
      rcases hrw with ⟨_, h0⟩ | ⟨b, o', cc, e, _, hbl, hx⟩
      · rw [h0] at hrl; simp at hrl; omega
      obtain ⟨hpr, hcr⟩ : pr = some ⟨b, o', none⟩ ∧ cr = cc := by cases e; exact ⟨rfl, rfl⟩
      subst hpr hcr
      clear e
      refine step_wp ho g4.1 (stepIn_append (.tmp d) (.tmp (d + 3)) 25 g4.2.2 base 31 i0 (.agg #[.int .i64 0, .int .i64 0, .bool false]) 3 24 Try.underlying25 hi hz0 hz1 hz2 rfl (by decide) v xs.length (xs.flatMap cellsF) (p0 l0) (own_blF hown hb) ⟨b, o', none⟩ C cr (row.flatMap cellsF) hg (by rw [flat_cellsF_len, hrl]) (flat_cells cellsF_len hx) (flat_one oneF_cells row) (by unfold maxLen; omega) (by omega) (by have := hb.size; omega) ?_)
      intro v' w5 hown' hgrow hat
      obtain ⟨g', cap', rfl⟩ := ownsRow_some hown' (by omega)
      rw [g4.2.1]
      refine ⟨by rw [size_put]; exact hs, fr _ _ (by omega), by simpa using c3, by simp [l0, l3], by simp [l5], by simp, fun _ => ⟨u, w5, g', cap', hb, hgrow, hown', ?_, fun _ => ⟨rfl, sv _ _ (by omega)⟩, by simp [l5]⟩⟩
      rcases hat with h | h
      · exact .inl h
      · exact .inr (by simpa [Value.ownBlock] using h)
    · obtain rfl : o = o5 := by rw [hops] at ho; simpa using ho.symm
      have l4 : L 4 = true := hall _ e5 rfl
      obtain ⟨u0, w5, g', cap', k1, k2, k3, k4, k5, _⟩ := hpost l4
      obtain ⟨rfl, ev⟩ := k5 hLi
      have hv5 : Boxed u B 25 v := (boxed_bl hv k1).kept k2 ((boxed_bl hv k1).not_row (by decide) (own_blF hown k1))
      refine step_wp ho g5.1 (store_wp _ _ _ g5.2.2 (by rw [hfr _ hsL, hB, ev]; exact Try.store1F B _ _ _ v u hv5.cell hv5.frozen) ?_)
      rw [g5.2.1]
      exact ⟨by rw [size_put]; exact hs, fun s hs => hfr s hs, by simpa using c3, by simpa using c4, by simp [l4], by simp [l4], fun _ => ⟨u0, u, g', cap', k1, k2, k3, k4, by simp, fun _ => rfl⟩⟩
  · intro L act u ⟨hs, hfr, c3, c4, c5, hpre, hpost⟩ hL
    have hL' : ∀ j, j < 6 → L j = true := fun j hj => hL j (by rw [hops]; simpa using hj)
    obtain ⟨u0, w5, g', cap', k1, k2, k3, k4, _, k6⟩ := hpost (hL' 4 (by omega))
    rw [k6 (hL' 5 (by omega))]
    exact fin act u0 w5 g' cap' k1 k2 k3 k4
end Go.Proofs.Ytokbmbgiimbkpaa

/- mat's Beside, of fractions (layer 6). -/
namespace Go.Proofs.Ytokbmbgiimbkpaa
open Go.RowKit Go.Shelf
set_option linter.unusedSimpArgs false
set_option linter.unusedVariables false
attribute [local go_sem] Oper.semAt_some

set_option maxRecDepth 100000 in
set_option maxHeartbeats 4000000 in
theorem mBesideF (R C D : Nat) (p : Option Addr) (n cap : Nat) (f : Nat → Nat → Fr) (q : Option Addr) (n2 cap2 : Nat) (g : Nat → Nat → Fr) (E N : Nat) (w : World) (hx : Mx 3 cellsF w R C p n cap f) (hy : Mx 3 cellsF w R D q n2 cap2 g) (hE : E = C + D) (hE16 : E ≤ 16) (hN : N = R * E) :
    Calls Try.prog 24 #[mV R C p n cap, mV R D q n2 cap2] w fun e w' => ∃ p' cap', e = .returned (.tuple #[mV R E p' N cap', .bool true]) ∧ Mx 3 cellsF w' R E p' N cap' (besideM C f g) ∧ Bl w w' := by
  obtain ⟨i0, hi, hz0, hz1, hz2⟩ := info_parts Try.info_F
  refine (callsIn_wide (n := 8)).1 ?_
  have hfx := hx.fit
  have hfy := hy.fit
  have hdR := hx.1
  have hdD := hy.1
  have hR16 := hdR.r2
  have hC16 := hdR.c2
  have hD16 := hdD.c2
  have hC1 := hdR.c1
  have hD1 := hdD.c1
  have hR1 := hdR.r1
  have hNN : n + n2 = N := by rw [hx.2.1, hy.2.1, hN, hE, Nat.mul_add]
  have hNi : (n : Int) + (n2 : Int) = N := by omega
  have hEi : (C : Int) + (D : Int) = E := by omega
  have hN256 : N ≤ 256 := by rw [hN]; exact Nat.mul_le_mul hR16 hE16
  have hside : sideB E = true := decide_eq_true ⟨by omega, by omega⟩
  have HE := hideP hE
  have HN := hideP hN
  have HXm := hideP hx
  have HYm := hideP hy
  clear hx hy hE hN hNN
  obtain ⟨W, hW⟩ : ∃ W, W = ((w.alloc (.cells #[.int .i64 R, .int .i64 C, .slice p n cap] 27)).alloc (.cells #[.int .i64 R, .int .i64 D, .slice q n2 cap2] 27)).alloc (.cells #[.int .i64 0, .int .i64 0, .slice none 0 0] 27) := ⟨_, rfl⟩
  have b0 : Bl w W := by rw [hW]; exact (((Bl.refl _).alloc _).alloc _).alloc _
  have mx0 : MBox W w.heap.size R C p n cap := by rw [hW]; exact (MBox.new w _ _ _ _ _ _).later (((Bl.refl _).alloc _).alloc _)
  have my0 : MBox W (w.heap.size + 1) R D q n2 cap2 := by rw [hW]; have := (MBox.new (w.alloc (.cells #[.int .i64 R, .int .i64 C, .slice p n cap] 27)) R D q n2 cap2 27); rw [World.size_alloc] at this; exact this.later ((Bl.refl _).alloc _)
  have mz0 : MBox W (w.heap.size + 1 + 1) 0 0 none 0 0 := by rw [hW]; have := MBox.new ((w.alloc (.cells #[.int .i64 R, .int .i64 C, .slice p n cap] 27)).alloc (.cells #[.int .i64 R, .int .i64 D, .slice q n2 cap2] 27)) 0 0 none 0 0 27; rw [World.size_alloc, World.size_alloc] at this; exact this
  have hs0 : W.heap.size = w.heap.size + 1 + 1 + 1 := by rw [hW]; simp
  have HW := hideP hW
  clear hW
  refine callsIn_of_wp_marks Try.func24 rfl trivial ?_ rfl
  simp only [Try.ntmps24, List.size_toArray, List.length_cons, List.length_nil, Nat.reduceAdd, Nat.reduceSub, Array.replicate_succ, Array.replicate_zero, List.push_toArray, List.append_toArray, List.nil_append, List.cons_append]
  gi_wp2_with fail
  rw [← HW.out]
  refine ⟨trivial, ?_⟩
  refine (callsIn_wide.2 (mRightF _ _ _ _ _ _)).mono ?_
  rintro e w1 ⟨rfl, h1⟩
  rw [hfx]
  obtain ⟨d0, d1, d2, u0, u1, u2, ltm⟩ := my0.later h1
  gi_wp2_with fail
  refine ⟨trivial, ?_⟩
  refine (callsIn_wide.2 (mRightF _ _ _ _ _ _)).mono ?_
  rintro e w5 ⟨rfl, h2⟩
  rw [hfy]
  clear d0 d1 d2 u0 u1 u2 ltm
  have mx5 := mx0.later (h1.trans h2)
  have my5 := my0.later (h1.trans h2)
  have mz5 := mz0.later (h1.trans h2)
  have bw5 : Bl w w5 := b0.trans (h1.trans h2)
  obtain ⟨c0, c1, c2, f0, f1, f2, lt⟩ := id mx5
  obtain ⟨d0, d1, d2, u0, u1, u2, ltm⟩ := id my5
  gi_wp2_with fail
  refine ⟨trivial, ?_⟩
  refine (callsIn_wide.2 (side_any _ _)).mono ?_
  rintro e w9 ⟨rfl, hw9⟩
  have hw9' := hw9.symm
  subst hw9'
  clear hw9
  rw [hside]
  gi_wp2_with (gi_at_make; refine wpListIn_make_own _ rfl _ _ 25 rfl w5.heap.size 31 i0 (.agg #[.int .i64 0, .int .i64 0, .bool false]) 3 Try.underlying25 hi hz0 hz1 .i64 .i64 _ N rfl rfl (by simp) (by rw [hz2]; omega) (by unfold maxLen; omega) (by simp) ?_; intro w6 hown0 hgrow0; have mx6 := mbox_block mx5 (hgrow0.block _ mx5.lt nofun) hgrow0.size; clear c0 c1 c2 f0 f1 f2 d0 d1 d2 u0 u1 u2 lt ltm; obtain ⟨c0, c1, c2, f0, f1, f2, lt⟩ := mx6)
  have h56 : Bl w5 w6 := ⟨hgrow0.os, hgrow0.tape, hgrow0.output, hgrow0.size, fun k hk => hgrow0.block k hk nofun⟩
  have hs6 : w5.heap.size ≤ w6.heap.size := hgrow0.size
  obtain ⟨w6b, hw6b⟩ : ∃ w6b, w6b = w6.alloc (.cells #[.slice (some ⟨w5.heap.size, 0, none⟩) 0 N] 25) := ⟨_, rfl⟩
  have h6b : Bl w6 w6b := by rw [hw6b]; exact (Bl.refl _).alloc _
  have hs6b : w6b.heap.size = w6.heap.size + 1 := by rw [hw6b]; simp
  have bl6 : Boxed w6b w6.heap.size 25 (.slice (some ⟨w5.heap.size, 0, none⟩) 0 N) := by rw [hw6b]; exact Boxed.new w6 _ _
  have hown6 : w6b.ownsRow w5.heap.size 31 3 (.slice (some ⟨w5.heap.size, 0, none⟩) 0 N) 0 [] := own_blF hown0 h6b
  have hlt5 : w5.heap.size < w6b.heap.size := by have := (hown6.lt w5.heap.size rfl).2; exact this
  have HW6 := hideP hw6b
  clear hw6b hown0 hgrow0 c0 c1 c2 f0 f1 f2 lt
  rw [← HW6.out]
  refine ⟨trivial, ?_⟩
  refine (callsIn_wide.2 (mAllF _ _ _ _ _ f _ (HXm.out.later ((bw5.trans h56).trans h6b)))).mono ?_
  rintro e w7 ⟨B2, p2, cap5, rfl, hK7, h7⟩
  have HK7 := hideP hK7
  clear hK7
  have hs7 : w6.heap.size + 1 ≤ w7.heap.size := by have := h7.size; omega
  have b57 : Below w5.heap.size w5 w7 := (h56.trans h6b).trans h7
  have h57s := b57.size
  have bl7 := boxed_bl bl6 h7
  have own7 := own_blF hown6 h7
  clear bl6 hown6
  gi_wp2_with fail
  refine rangeV rfl (by omega) (gf := 50) (lb := #[.pointer (some ⟨B2, 0, none⟩)]) rfl trivial (enters_of Try.func50 (by kernel_rfl) rfl)
    (seqMF 7 B2 _ w7.heap.size R C p2 n cap5 f w7 (Nat.le_refl _) HK7.out) (fun x A B h => h.1) (fun h k => h.trans k) (span_b (Nat.le_refl _)) (fun _ => rfl)
    (fun pre U => (∃ v, Boxed U w6.heap.size 25 v ∧ U.ownsRow w5.heap.size 31 3 v (rowsL E (besideM C f g) pre).length ((rowsL E (besideM C f g) pre).flatMap cellsF) ∧ (∀ b, v.ownBlock = some b → b < w6b.heap.size ∨ w7.heap.size ≤ b)) ∧ (Below w5.heap.size w5 U ∧ w7.heap.size ≤ U.heap.size))
    (fun _ _ _ => False)
    (OwnFrom.and (Own.from (holdsRow_own w5.heap.size w6.heap.size 25 31 3 (fun pre => (rowsL E (besideM C f g) pre).length) (fun pre => (rowsL E (besideM C f g) pre).flatMap cellsF) (fun _ v => ∀ b, v.ownBlock = some b → b < w6b.heap.size ∨ w7.heap.size ≤ b)) _) (OwnFrom.and (ownFrom_below (Nat.le_refl _) b57.size) (own_size _ _)))
    (fun _ _ _ _ _ hs _ _ => hs)
    ⟨⟨_, bl7, own7, fun b hb => by cases hb; exact .inl hlt5⟩, b57, Nat.le_refl _⟩
    (fun a x a' U => x.1 < R ∧ Rw 3 cellsF U (rowV C x) (rowM C f x.1) ∧ a' = { tmps := ((((a.tmps.setIfInBounds 44 (.int .i64 x.1)).setIfInBounds 45 (rowV C x)).setIfInBounds 7 (.int .i64 x.1)).setIfInBounds 8 (rowV C x)), defers := [] })
    (fun x a' _ X Y row hs hg hr => ⟨hs.1, rw_own hs.2.1 hg (fun r e => (hr r e).2), hs.2.2⟩)
    ?assign ?body ?done ?stop
  case assign =>
    rintro l pre x W0 U K' _ ⟨hbU, hxR, hrow, hfr, hcc⟩ hI hK'
    have HK2 := hideP hK'
    have HI := hideP hI
    clear hK' hI
    gi_wp2
    exact HK2.out _ _ (KeepsFrom.refl _ _) (Span.refl _ _ _) HI.out ⟨hxR, hrow, rfl⟩
  case body =>
    rintro l pre x a' U hl' ⟨r, hr'⟩ ⟨⟨v, hv, hrow, hgv⟩, hbU, hsU⟩ ⟨hxR, hrx, rfl⟩ hlt
    simp only [List.setIfInBounds_toArray, List.set_cons_zero, List.set_cons_succ]
    have hrowE : rowM E (besideM C f g) x.1 = rowM C f x.1 ++ rowM D g x.1 := by rw [HE.out]; exact rowM_beside C D f g x.1
    have hlenL : (rowsL E (besideM C f g) pre).length + E ≤ 256 := by
      rw [rowsL_len]
      have h1 : (pre.length + 1) * E ≤ R * E := Nat.mul_le_mul_right _ hlt
      have := HN.out
      rw [Nat.succ_mul] at h1
      omega
    have HRE := hideP hrowE
    clear hrowE
    have hEsum : E = C + D := HE.out
    have my7 := my5.later (show Bl w5 U from hbU)
    rcases hrx with ⟨_, h0⟩ | ⟨bx, ox, cx, ex, hcx, hbx, hxx⟩
    · have := rowM_len C f x.1; rw [h0] at this; simp at this; omega
    obtain ⟨i, px, kx⟩ := x
    rw [rowM_len] at ex
    obtain ⟨hpx, hkx⟩ : px = some ⟨bx, ox, none⟩ ∧ kx = cx := by cases ex; exact ⟨rfl, rfl⟩
    subst hpx hkx
    clear ex
    have hcv := hv.cell
    have HV := hideP hv
    have HR := hideP hrow
    have HXX := hideP hxx
    clear hv hrow hxx
    have hw5U : w5.heap.size ≤ U.heap.size := hbU.size
    gi_wp2_with (gi_at_builtin; refine wpListIn_append_own_at _ rfl _ _ 25 rfl w5.heap.size 31 i0 (.agg #[.int .i64 0, .int .i64 0, .bool false]) 3 24 Try.underlying25 hi hz0 hz1 hz2 rfl (by decide) _ _ _ rfl HR.out ⟨bx, ox, none⟩ C kx ((rowM C f i).flatMap cellsF) rfl (by rw [flat_cellsF_len, rowM_len]) (flat_cells cellsF_len HXX.out) (flat_one oneF_cells _) (by unfold maxLen; omega) (by omega) (by omega) ?_; intro v' w8 hown' hgrow _ hat; obtain ⟨g', cap', rfl⟩ := ownsRow_some hown' (by omega); obtain ⟨hv5, hv6, hr6, hk6, hb6⟩ := boxed_appended HV.out (by decide) HR.out hw5U (by omega) hown' hgrow; have hc5 := hv5.cell; have hf5 := hv5.frozen)
    refine store_wp 25 (.tmp 6) (.tmp 48) rfl (Try.store1F w6.heap.size _ _ _ v w8 hc5 hf5) ?_
    gi_wp2_with fail
    have hg8 := hgrow.size
    have hG1 : ∀ b, (Value.slice (some ⟨g', 0, none⟩) ((rowsL E (besideM C f g) pre).length + C) cap').ownBlock = some b → b < w6b.heap.size ∨ w7.heap.size ≤ b := by
      intro b hb
      have hb' : g' = b := by cases hb; rfl
      subst hb'
      rcases hat with h | h
      · exact hgv _ h.symm
      · have : g' = U.heap.size := by simpa [Value.ownBlock] using h
        exact .inr (by omega)
    have sp1 : Span w6b.heap.size w7.heap.size U (w8.setCell ⟨w6.heap.size, 0, none⟩ (.slice (some ⟨g', 0, none⟩) ((rowsL E (besideM C f g) pre).length + C) cap')) := span_appended (Bl.refl U) (by omega) hgv hgrow (by omega)
    have hs8 : U.heap.size ≤ (w8.setCell ⟨w6.heap.size, 0, none⟩ (.slice (some ⟨g', 0, none⟩) ((rowsL E (besideM C f g) pre).length + C) cap')).heap.size := by simp; omega
    have hr7 : (w8.setCell ⟨w6.heap.size, 0, none⟩ (.slice (some ⟨g', 0, none⟩) ((rowsL E (besideM C f g) pre).length + C) cap')).ownsRow w5.heap.size 31 3 (.slice (some ⟨g', 0, none⟩) ((rowsL E (besideM C f g) pre).length + C) cap') (rowsL E (besideM C f g) pre ++ rowM C f i).length ((rowsL E (besideM C f g) pre ++ rowM C f i).flatMap cellsF) := by
      rw [List.length_append, rowM_len, List.flatMap_append]
      exact hr6
    have hlen7 : (rowsL E (besideM C f g) pre ++ rowM C f i).length ≤ 100000 := by rw [List.length_append, rowM_len]; omega
    generalize w8.setCell ⟨w6.heap.size, 0, none⟩ (.slice (some ⟨g', 0, none⟩) ((rowsL E (besideM C f g) pre).length + C) cap') = U1 at *
    generalize (Value.slice (some ⟨g', 0, none⟩) ((rowsL E (besideM C f g) pre).length + C) cap') = v7 at *
    clear hown' hgrow hat hv5 hc5 hf5 hr6
    have hb5U1 : Below w5.heap.size w5 U1 := hbU.trans hb6
    have hC := fun u (hu : Bl U1 u) => (mRowF R D q n2 cap2 g u (HYm.out.later ((bw5.trans hb5U1).trans hu)) i hxR).mono (R' := fun e w' => ∃ p' cap', e = .returned (.slice p' D cap') ∧ Rw 3 cellsF w' (.slice p' D cap') (rowM D g i) ∧ Bl u w') (fun _ _ ⟨p', cap', h1, h2, h3⟩ => ⟨p', cap', h1, h2.1, h3⟩)
    refine rowAppend (ops := _) rfl (by kernel_rfl) 49 6 16 _ (by simp [Act.put]) (by omega) ⟨rfl, rfl, rfl⟩ ⟨rfl, rfl⟩ ⟨rfl, rfl⟩ ⟨rfl, rfl, rfl⟩ ⟨rfl, rfl, rfl⟩ ⟨rfl, rfl, rfl⟩ ⟨by simp, by simp⟩ ⟨by simp, by simp⟩ (by simp)
      (mV R D q n2 cap2) (.int .i64 i) (fun act u K' hfr hu hk => load_wp 27 (.tmp 3) rfl (by rw [hfr 3 (by omega)]; exact Try.loadMF (w.heap.size + 1) _ _ _ _ _ u ((my5.later (show Bl w5 U1 from hb5U1)).later hu)) hk)
      (fun act u K' hfr hu hk => move_wp (.tmp 7) rfl (by rw [hfr 7 (by omega)]; exact hk))
      trivial (fun _ => by omega) (enters_of Try.func16 (by kernel_rfl) rfl) D (by omega) (by omega) (rowM D g i) (rowM_len _ _ _)
      (fun u hu => CallsIn.inRound l (callsIn_wide.2 (hC u hu)))
      w6.heap.size rfl v7 hv6 w5.heap.size (rowsL E (besideM C f g) pre ++ rowM C f i) hr7 hlen7 (by omega) ?_
    intro act u0 w9 g9 cap9 k1 k2 k3 k4
    have hvu := boxed_bl hv6 k1
    have hru := own_blF hr7 k1
    have hsu := k1.size
    have hu5 : w5.heap.size ≤ u0.heap.size := by omega
    obtain ⟨hv8, hv9, hr9, hk9, hb9⟩ := boxed_appended hvu (by decide) hru hu5 (by omega) k3 k2
    have hg9 := k2.size
    refine ⟨(hk6.from _).trans ((k1.keeps _).trans (hk9.from _)), sp1.trans (span_appended k1 (by omega) hG1 k2 (by omega)), ⟨_, hv9, ?_, ?_⟩, ?_, ?_⟩
    · rw [rowsL_snoc]
      show World.ownsRow _ _ _ _ _ (rowsL E (besideM C f g) pre ++ rowM E (besideM C f g) i).length ((rowsL E (besideM C f g) pre ++ rowM E (besideM C f g) i).flatMap cellsF)
      rw [show rowM E (besideM C f g) i = rowM C f i ++ rowM D g i from HRE.out, ← List.append_assoc]
      have el : (rowsL E (besideM C f g) pre ++ rowM C f i ++ rowM D g i).length = (rowsL E (besideM C f g) pre ++ rowM C f i).length + D := by rw [List.length_append, rowM_len D]
      rw [el, List.flatMap_append (xs := rowsL E (besideM C f g) pre ++ rowM C f i)]
      exact hr9
    · intro b hb
      have hb' : g9 = b := by cases hb; rfl
      subst hb'
      rcases k4 with h | h
      · exact hG1 _ h.symm
      · exact .inr (by omega)
    · exact hb5U1.trans ((k1.mono (by omega)).trans hb9)
    · simp; omega
  case done =>
    rintro Dm zs U hD hS ⟨⟨v, hv, hrow, _⟩, hb5, hs7'⟩ hKD
    have e := rowsL_all E (besideM C f g) zs hS
    rw [e] at hrow
    have RW := Rw.of_own cellsF_len hrow
    have FR : Fresh w5.heap.size v := fun b hb => (hrow.lt b hb).1
    obtain ⟨p', cap', hv', _, _⟩ := RW.cut
    rw [mk_len, ← HN.out] at hv'
    subst hv'
    have hcl := hv.cell
    have HRW := hideP RW
    have HFR := hideP FR
    have HKD := hideP hKD
    obtain ⟨c0, c1, c2, f0, f1, f2, lt⟩ := mx5.later (show Bl w5 U from hb5)
    obtain ⟨d0, d1, d2, u0, u1, u2, ltm⟩ := my5.later (show Bl w5 U from hb5)
    obtain ⟨x0, x1, x2, y0, y1, y2, ltz⟩ := mz5.later (show Bl w5 U from hb5)
    have hbw : Bl w U := bw5.trans hb5
    clear hrow RW FR hKD hv
    gi_wp2
    have hs4 := (h1.trans h2).size
    have hKD2 : ((((U.setCell ⟨w.heap.size + 1 + 1, 0, none⟩ (.int .i64 R)).setCell ⟨w.heap.size + 1 + 1, 1, none⟩ (.int .i64 E)).setCell ⟨w.heap.size + 1 + 1, 2, none⟩ (.slice p' N cap'))).heap[Dm]? = some (.deferred (some [])) :=
      (((KeepsOthers.setCell _ _ _).trans (KeepsOthers.setCell _ _ _)).trans (KeepsOthers.setCell _ _ _)).same Dm _ HKD.out rfl
    refine ⟨by simp, .inl ⟨_, _, rfl, run_takeDeferred hKD2, ?_⟩⟩
    have mzf := MBox.fill (⟨x0, x1, x2, y0, y1, y2, ltz⟩ : MBox U (w.heap.size + 1 + 1) 0 0 none 0 0) R E p' N cap'
    have mzg := mbox_block (w' := World.putObj _ Dm (.deferred none)) mzf (World.putObj_heap_other (by omega)) (by simp [World.putObj])
    have blf := Bl.put3 hbw (n := w.heap.size + 1 + 1) (by omega) (.int .i64 R) (.int .i64 E) (.slice p' N cap')
    have rwf := ((HRW.out.set (p := ⟨w.heap.size + 1 + 1, 0, none⟩) (.int .i64 R) (fun b hb => by have := HFR.out b hb; show w.heap.size + 1 + 1 + 1 ≤ b; omega)).set (p := ⟨w.heap.size + 1 + 1, 1, none⟩) (.int .i64 E) (fun b hb => by have := HFR.out b hb; show w.heap.size + 1 + 1 + 1 ≤ b; omega)).set (p := ⟨w.heap.size + 1 + 1, 2, none⟩) (.slice p' N cap') (fun b hb => by have := HFR.out b hb; show w.heap.size + 1 + 1 + 1 ≤ b; omega)
    generalize ((U.setCell ⟨w.heap.size + 1 + 1, 0, none⟩ (.int .i64 R)).setCell ⟨w.heap.size + 1 + 1, 1, none⟩ (.int .i64 E)).setCell ⟨w.heap.size + 1 + 1, 2, none⟩ (.slice p' N cap') = Z at *
    have rwg : Rw 3 cellsF (Z.putObj Dm (.deferred none)) (.slice p' N cap') (mk R E (besideM C f g)) := rw_own rwf (grownBy_putObj' _ Dm (.deferred none)) (fun r e => by cases e; exact ⟨_, hKD2, rfl⟩)
    have blg : Bl w (Z.putObj Dm (.deferred none)) := Below.trans blf (belowK_b (w := w) (Nat.le_refl _) Z Dm _ _ (by have := hbw.size; have := b57.size; omega) hKD2 rfl rfl)
    generalize Z.putObj Dm (.deferred none) = Y at *
    obtain ⟨a0, a1, a2, _, _, _, _⟩ := mzg
    refine ⟨.tuple #[mV R E p' N cap', .bool true], ?_, p', cap', rfl, ⟨⟨hR1, hR16, by have := HE.out; omega, hE16⟩, HN.out, rwg.q⟩, blg⟩
    simp [results, Try.results24, go_sem, a0, a1, a2]
  case stop =>
    rintro D' c pre U _ _ h _
    exact h.elim
end Go.Proofs.Ytokbmbgiimbkpaa

/- Sums, and what stands beside one another, of matrices of whole numbers, as fractions (layer 6's laws). -/
namespace Go.Proofs.Ytokbmbgiimbkpaa
open Go.RowKit
set_option linter.unusedSimpArgs false
set_option linter.unusedVariables false

theorem add6_any {A B : Int} (R C : Nat) (p q : Option Addr) (n cap cap2 : Nat) (a b : Nat → Nat → Int) (w : World) (hx : MxI w R C p n cap a) (hy : MxI w R C q n cap2 b) (ha : Sm2 A R C a) (hb : Sm2 B R C b) (hA : A ≤ 100000000) (hB : B ≤ 100000000) :
    Calls Try.prog 22 #[mV R C p n cap, mV R C q n cap2] w fun e w' => ∃ p' cap', e = .returned (.tuple #[mV R C p' n cap', .bool true]) ∧ MxI w' R C p' n cap' (fun i k => a i k + b i k) ∧ Bl w w' := by
  refine (mAdd_any R C p q n cap cap2 _ _ w hx hy).mono ?_
  rintro e w' ⟨p', cap', rfl, h, hb'⟩
  refine ⟨p', cap', rfl, h.congr (fun i k hi hk => ?_), hb'⟩
  have h1 := ha i k hi hk
  have h2 := hb i k hi hk
  exact add_it ⟨by omega, by omega⟩ ⟨by omega, by omega⟩ ⟨by omega, by omega⟩
theorem sub6_any {A B : Int} (R C : Nat) (p q : Option Addr) (n cap cap2 : Nat) (a b : Nat → Nat → Int) (w : World) (hx : MxI w R C p n cap a) (hy : MxI w R C q n cap2 b) (ha : Sm2 A R C a) (hb : Sm2 B R C b) (hA : A ≤ 100000000) (hB : B ≤ 100000000) :
    Calls Try.prog 23 #[mV R C p n cap, mV R C q n cap2] w fun e w' => ∃ p' cap', e = .returned (.tuple #[mV R C p' n cap', .bool true]) ∧ MxI w' R C p' n cap' (fun i k => a i k - b i k) ∧ Bl w w' := by
  refine (mSub_any R C p q n cap cap2 _ _ w hx hy).mono ?_
  rintro e w' ⟨p', cap', rfl, h, hb'⟩
  refine ⟨p', cap', rfl, h.congr (fun i k hi hk => ?_), hb'⟩
  have h1 := ha i k hi hk
  have h2 := hb i k hi hk
  exact sub_it ⟨by omega, by omega⟩ ⟨by omega, by omega⟩ ⟨by omega, by omega⟩
theorem beside6_any (R C D : Nat) (p : Option Addr) (n cap : Nat) (a : Nat → Nat → Int) (q : Option Addr) (n2 cap2 : Nat) (b : Nat → Nat → Int) (E N : Nat) (w : World) (hx : MxI w R C p n cap a) (hy : MxI w R D q n2 cap2 b) (hE : E = C + D) (hE16 : E ≤ 16) (hN : N = R * E) :
    Calls Try.prog 24 #[mV R C p n cap, mV R D q n2 cap2] w fun e w' => ∃ p' cap', e = .returned (.tuple #[mV R E p' N cap', .bool true]) ∧ MxI w' R E p' N cap' (besideM C a b) ∧ Bl w w' := by
  refine (mBesideF R C D p n cap _ q n2 cap2 _ E N w hx hy hE hE16 hN).mono ?_
  rintro e w' ⟨p', cap', rfl, h, hb'⟩
  refine ⟨p', cap', rfl, h.congr (fun i k hi hk => ?_), hb'⟩
  unfold besideM
  split <;> rfl
/-- A product with a sum is the sum of both products. -/
theorem mulI_add (M : Nat) (a b c : Nat → Nat → Int) (i k : Nat) : mulI M a (fun i k => b i k + c i k) i k = mulI M a b i k + mulI M a c i k := by
  induction M with
  | zero => simp [mulI_zero]
  | succ M ih => rw [mulI_succ, mulI_succ, mulI_succ, ih, Int.mul_add]; omega
/-- A product with two beside one another is both products beside one another. -/
theorem mulI_beside (M D : Nat) (a b c : Nat → Nat → Int) (i k : Nat) : mulI M a (besideM D b c) i k = besideM D (mulI M a b) (mulI M a c) i k := by
  unfold besideM
  by_cases h : k < D
  · rw [if_pos h]
    induction M with
    | zero => rfl
    | succ M ih => rw [mulI_succ, mulI_succ, ih, if_pos h]
  · rw [if_neg h]
    induction M with
    | zero => rfl
    | succ M ih => rw [mulI_succ, mulI_succ, ih, if_neg h]
theorem sm2_add {A B : Int} {R C : Nat} {a b : Nat → Nat → Int} (ha : Sm2 A R C a) (hb : Sm2 B R C b) : Sm2 (A + B) R C (fun i k => a i k + b i k) := fun i k hi hk => by
  have h1 := ha i k hi hk
  have h2 := hb i k hi hk
  show -(A + B) ≤ a i k + b i k ∧ a i k + b i k ≤ A + B
  exact ⟨by omega, by omega⟩
theorem sm2_beside {A : Int} {R C D : Nat} {a b : Nat → Nat → Int} (ha : Sm2 A R C a) (hb : Sm2 A R D b) : Sm2 A R (C + D) (besideM C a b) := fun i k hi hk => by
  unfold besideM
  by_cases h : k < C
  · rw [if_pos h]; exact ha i k hi h
  · rw [if_neg h]; exact hb i _ hi (by omega)
theorem sm2_mul {A B : Int} {R M D : Nat} {a b : Nat → Nat → Int} (hA : 0 ≤ A) (hB : 0 ≤ B) (ha : Sm2 A R M a) (hb : Sm2 B M D b) : Sm2 (A * B * M) R D (mulI M a b) := fun i k hi hk => mulI_bound hA hB ha hb hi hk M (Nat.le_refl _)
theorem sm2_le {A B : Int} {R C : Nat} {a : Nat → Nat → Int} (ha : Sm2 A R C a) (h : A ≤ B) : Sm2 B R C a := fun i k hi hk => by
  have h1 := ha i k hi hk
  exact ⟨by omega, by omega⟩
/-- Alike, of two matrices of the same whole numbers. -/
theorem alike6_any (R C : Nat) (p q : Option Addr) (n cap cap2 : Nat) (a b : Nat → Nat → Int) (w : World) (hx : MxI w R C p n cap a) (hy : MxI w R C q n cap2 b) (e : ∀ i k, i < R → k < C → a i k = b i k) :
    Calls Try.prog 30 #[mV R C p n cap, mV R C q n cap2] w fun e w' => e = .returned (.bool true) ∧ Bl w w' := by
  have hy' := hy.congr (g := fun i k => itF (a i k)) (fun i k hi hk => by rw [e i k hi hk])
  exact alike_any R C p q n cap cap2 _ w hx.2.2 hy'.2.2 (by rw [mk_len, hx.2.1]) (by rw [hx.2.1]; have := hx.1.lt; omega)
end Go.Proofs.Ytokbmbgiimbkpaa

/- Contracts of mat's Col, Mirror, of fractions (layer 6). Written by genMa.py. -/
namespace Go.Proofs.Ytokbmbgiimbkpaa
open Go.RowKit
set_option linter.unusedSimpArgs false
set_option linter.unusedVariables false

set_option maxHeartbeats 1000000 in
theorem mColF (R C : Nat) (p : Option Addr) (n cap : Nat) (f : Nat → Nat → Fr) (w : World) (h : Mx 3 cellsF w R C p n cap f) (k : Nat) (hk : k < C) :
    Calls Try.prog 17 #[mV R C p n cap, .int .i64 k] w fun e w' => ∃ p' cap', e = .returned (.slice p' R cap') ∧ (Rw 3 cellsF w' (.slice p' R cap') (colM R f k) ∧ Fresh w.heap.size (.slice p' R cap')) ∧ Bl w w' := by
  obtain ⟨i0, hi, hz0, hz1, hz2⟩ := info_parts Try.info_F
  have hfit := h.fit
  obtain ⟨b, o, rfl, hc, hb, HC⟩ := h.cells
  obtain ⟨hd, hn, -⟩ := h
  have ha1 := amongB_t hk
  have h16 := hd.lt
  rw [← hn] at h16
  have hR16 := hd.r2
  have HN := hideP hn
  have HCX := hideP HC
  clear hn HC
  obtain ⟨W, hW⟩ : ∃ W, W = (w.alloc (.cells #[.int .i64 R, .int .i64 C, .slice (some ⟨b, o, none⟩) n cap] 27)) := ⟨_, rfl⟩
  have b0 : Bl w W := by rw [hW]; exact (Bl.refl _).alloc _
  have m0 : MBox W w.heap.size R C (some ⟨b, o, none⟩) n cap := by rw [hW]; exact MBox.new w _ _ _ _ _ _
  have HW := hideP hW
  clear hW
  go_enter Try.func17, Try.ntmps17
  go_wp2_with fail
  rw [← HW.out]
  refine (mRightF _ _ _ _ _ _).mono ?_
  rintro e w1 ⟨rfl, h1⟩
  rw [hfit]
  have m1 := m0.later h1
  obtain ⟨c0, c1, c2, f0, f1, f2, lt⟩ := id m1
  go_wp2_with fail
  refine (among_any _ _ _).mono ?_
  rintro e w2 ⟨rfl, hw2⟩
  subst hw2
  rw [ha1]
  go_wp2_with (at_make; refine wpList_make_own _ rfl _ _ 25 rfl W.heap.size 31 i0 (.agg #[.int .i64 0, .int .i64 0, .bool false]) 3 Try.underlying25 hi hz0 hz1 .i64 .i64 _ R rfl rfl (by simp) (by rw [hz2]; omega) (by unfold maxLen; omega) (by have := h1.size; omega) ?_; intro w0 hown0 hgrow0; have m2 := mbox_block m1 (hgrow0.block _ m1.lt nofun) hgrow0.size; clear c0 c1 c2 f0 f1 f2 lt; obtain ⟨c0, c1, c2, f0, f1, f2, lt⟩ := id m2)
  have hB0 : Bl W w0 := h1.trans ⟨hgrow0.os, hgrow0.tape, hgrow0.output, hgrow0.size, fun k hk => hgrow0.block k hk nofun⟩
  clear c0 c1 c2 f0 f1 f2 lt hgrow0 m1 m2
  go_loopw [5, 22] (fun v i wr => ∃ j : Nat, i = .int .i64 j ∧ j ≤ R ∧ wr.ownsRow W.heap.size 31 3 v (colM j f k).length ((colM j f k).flatMap cellsF) ∧ Bl W wr) (fun _ i _ => R - (intOf i).toNat)
  case atStart => exact ⟨0, rfl, Nat.zero_le _, hown0, hB0⟩
  case round =>
    clear hown0 hB0
    obtain ⟨j, rfl, hj, hown, hB⟩ := hrel
    by_cases hlt : j < R
    · obtain ⟨a, q, e1, e2, hq1, hq3, hq5, hq6⟩ := place hd hlt hk
      rw [← HN.out] at hq5
      have CX := HCX.out j k hlt hk
      rw [← e2] at CX
      have HT := hideP (colM_succ j f k)
      have hlen : (colM j f k).length ≤ 16 := by rw [colM_len]; omega
      clear e1 e2
      generalize colM j f k = ys at *
      generalize f j k = x at *
      have y0 : ∀ u, Bl w u → u.cell? ⟨b, o + q * 3, none⟩ = some (.int .i64 x.n) := fun u hu => (bl_cell hu _ _ hb).trans (CX 0 _ rfl)
      have y1 : ∀ u, Bl w u → u.cell? ⟨b, o + q * 3 + 1, none⟩ = some (.int .i64 x.d) := fun u hu => (bl_cell hu _ _ hb).trans (CX 1 _ rfl)
      have y2 : ∀ u, Bl w u → u.cell? ⟨b, o + q * 3 + 2, none⟩ = some (.bool x.bad) := fun u hu => (bl_cell hu _ _ hb).trans (CX 2 _ rfl)
      have b1 := b0.trans hB
      have z0 := y0 _ b1
      have z1 := y1 _ b1
      have z2 := y2 _ b1
      obtain ⟨c0, c1, c2, f0, f1, f2, lt⟩ := m0.later hB
      clear y0 y1 y2 CX
      go_wp2_with (at_builtin; refine wpList_append_own _ rfl _ _ 25 rfl W.heap.size 31 i0 (.agg #[.int .i64 0, .int .i64 0, .bool false]) 3 24 Try.underlying25 hi hz0 hz1 hz2 rfl (by decide) _ _ _ rfl (hown.alloc _) ⟨_, 0, none⟩ 1 1 (cellsF x) rfl rfl (newF_cells _ _ _) (oneF_cells _) (by unfold maxLen; omega) (by omega) (by have := hB.size; simp; omega) ?_; intro v' w5 hown' hgrow _)
      have R1 := own_more (ys := [x]) (hB.alloc _) (Nat.le_refl _) (hown.alloc _) (by simpa using hown') rfl hgrow
      clear hown hown' hgrow c0 c1 c2 f0 f1 f2 lt z0 z1 z2
      go_wp2
      go_roundw
      case rel => exact ⟨j + 1, by simp, hlt, by rw [HT.out]; exact R1.2, R1.1⟩
      case measure => simp [intOf]; omega
    · obtain rfl : j = R := by omega
      have RW := hideP (Rw.of_own cellsF_len hown)
      have FR := hideP (show Fresh w.heap.size _ from fun g hg => by have := (hown.lt g hg).1; have := b0.size; omega)
      obtain ⟨p', cap', hv, hcc, _⟩ := RW.out.cut
      rw [colM_len] at hv
      have HV := hideP hv
      clear hv hown
      rename_i v
      obtain rfl := HV.out
      go_wp2
      go_ret
      exact ⟨p', cap', rfl, ⟨RW.out, FR.out⟩, b0.trans hB⟩
theorem mColF_no (R C : Nat) (p : Option Addr) (n cap : Nat) (w : World) (hfit : fitB R C n = true) (k : Int) (h : ¬ (0 ≤ k ∧ k < C)) :
    Calls Try.prog 17 #[mV R C p n cap, .int .i64 k] w fun e w' => e = .returned (.slice none 0 0) ∧ Bl w w' := by
  have ha1 : amongB k C = false := amongB_f h
  obtain ⟨W, hW⟩ : ∃ W, W = (w.alloc (.cells #[.int .i64 R, .int .i64 C, .slice p n cap] 27)) := ⟨_, rfl⟩
  have b0 : Bl w W := by rw [hW]; exact (Bl.refl _).alloc _
  have m0 : MBox W w.heap.size R C p n cap := by rw [hW]; exact MBox.new w _ _ _ _ _ _
  have HW := hideP hW
  clear hW
  go_enter Try.func17, Try.ntmps17
  go_wp2_with fail
  rw [← HW.out]
  refine (mRightF _ _ _ _ _ _).mono ?_
  rintro e w1 ⟨rfl, h1⟩
  rw [hfit]
  obtain ⟨c0, c1, c2, f0, f1, f2, lt⟩ := m0.later h1
  go_wp2_with fail
  refine (among_any _ _ _).mono ?_
  rintro e w2 ⟨rfl, rfl⟩
  rw [ha1]
  go_wp2
  go_ret
  exact ⟨rfl, b0.trans h1⟩
/-- The number below the diagonal, of two places. -/
def mirM {α : Type} (f : Nat → Nat → α) (i k : Nat) : α := f (max i k) (min i k)
theorem mMirror1F (R : Nat) (p : Option Addr) (n cap : Nat) (f : Nat → Nat → Fr) (w : World) (h : Mx 3 cellsF w R R p n cap f) (mb : Nat) (hm : MBox w mb R R p n cap) (i k : Nat) (hi : i < R) (hk : k < R) :
    Calls Try.prog 47 #[.int .i64 i, .int .i64 k, .pointer (some ⟨mb, 0, none⟩)] w fun e w' => e = .returned (frV (mirM f i k)) ∧ Bl w w' := by
  obtain ⟨W, hW⟩ : ∃ W, W = w.alloc (.cells #[.int .i64 0, .int .i64 0, .bool false] 31) := ⟨_, rfl⟩
  have b0 : Bl w W := by rw [hW]; exact (Bl.refl _).alloc _
  have x0 : FBox W w.heap.size zeroR := by rw [hW]; exact FBox.new w zeroR 31
  obtain ⟨c0, c1, c2, f0, f1, f2, lt⟩ := hm
  have HW := hideP hW
  clear hW
  rcases Nat.lt_trichotomy i k with hik | hik | hik
  · have q1 : (i : Int) < (k : Int) := by omega
    have q2 : ¬ (k : Int) < (i : Int) := by omega
    have A := hideP (fun u (hu : Bl w u) => mAtF R R p n cap f u (h.later hu) k i (by omega) (by omega))
    have e0 : mirM f i k = f k i := by unfold mirM; rw [show max i k = k by omega, show min i k = i by omega]
    rw [e0]
    clear h e0
    generalize f k i = x at *
    go_enter Try.func47, Try.ntmps47
    go_wp2_with fail
    rw [← HW.out]
    refine (A.out _ b0).mono ?_
    rintro e w1 ⟨rfl, h1⟩
    clear c0 c1 c2 f0 f1 f2 A
    obtain ⟨d0, d1, d2, g0, g1, g2, lt2⟩ := x0.later h1
    go_wp2
    simp [bodyPost, results, Try.results47, go_sem, d0, d1, d2]
    exact Bl.set3 (b0.trans h1) (Nat.le_refl _) _ _ _
  · subst hik
    have A := hideP (fun u (hu : Bl w u) => mAtF R R p n cap f u (h.later hu) i i (by omega) (by omega))
    have e0 : mirM f i i = f i i := by unfold mirM; rw [Nat.max_self, Nat.min_self]
    rw [e0]
    clear h e0
    generalize f i i = x at *
    go_enter Try.func47, Try.ntmps47
    go_wp2_with fail
    rw [← HW.out]
    refine (A.out _ b0).mono ?_
    rintro e w1 ⟨rfl, h1⟩
    clear c0 c1 c2 f0 f1 f2 A
    obtain ⟨d0, d1, d2, g0, g1, g2, lt2⟩ := x0.later h1
    go_wp2
    simp [bodyPost, results, Try.results47, go_sem, d0, d1, d2]
    exact Bl.set3 (b0.trans h1) (Nat.le_refl _) _ _ _
  · have q1 : (k : Int) < (i : Int) := by omega
    have q2 : ¬ (i : Int) < (k : Int) := by omega
    have A := hideP (fun u (hu : Bl w u) => mAtF R R p n cap f u (h.later hu) i k (by omega) (by omega))
    have e0 : mirM f i k = f i k := by unfold mirM; rw [show max i k = i by omega, show min i k = k by omega]
    rw [e0]
    clear h e0
    generalize f i k = x at *
    go_enter Try.func47, Try.ntmps47
    go_wp2_with fail
    rw [← HW.out]
    refine (A.out _ b0).mono ?_
    rintro e w1 ⟨rfl, h1⟩
    clear c0 c1 c2 f0 f1 f2 A
    obtain ⟨d0, d1, d2, g0, g1, g2, lt2⟩ := x0.later h1
    go_wp2
    simp [bodyPost, results, Try.results47, go_sem, d0, d1, d2]
    exact Bl.set3 (b0.trans h1) (Nat.le_refl _) _ _ _
theorem mMirrorF (R : Nat) (p : Option Addr) (n cap : Nat) (f : Nat → Nat → Fr) (w : World) (h : Mx 3 cellsF w R R p n cap f) :
    Calls Try.prog 25 #[mV R R p n cap] w fun e w' => ∃ p' cap', e = .returned (.tuple #[mV R R p' n cap', .bool true]) ∧ (Mx 3 cellsF w' R R p' n cap' (mirM f) ∧ Rw 3 cellsF w' (.slice p' n cap') (mk R R (mirM f)) ∧ Fresh w.heap.size (.slice p' n cap')) ∧ Bl w w' := by
  have hfit := h.fit
  obtain ⟨W, hW⟩ : ∃ W, W = (w.alloc (.cells #[.int .i64 R, .int .i64 R, .slice p n cap] 27)).alloc (.cells #[.int .i64 0, .int .i64 0, .slice none 0 0] 27) := ⟨_, rfl⟩
  have b0 : Bl w W := by rw [hW]; exact ((Bl.refl _).alloc _).alloc _
  have m0 : MBox W w.heap.size R R p n cap := by rw [hW]; exact (MBox.new w _ _ _ _ _ _).later ((Bl.refl _).alloc _)
  have x0 : MBox W (w.heap.size + 1) 0 0 none 0 0 := by rw [hW]; have := MBox.new (w.alloc (.cells #[.int .i64 R, .int .i64 R, .slice p n cap] 27)) 0 0 none 0 0 27; rw [World.size_alloc] at this; exact this
  have hs : W.heap.size = w.heap.size + 1 + 1 := by rw [hW]; simp
  have FI := hideP (fun u (hu : Bl W u) => mFilledF 47 w.heap.size (enters_of Try.func47 (by kernel_rfl) rfl) (mirM f) R R n h.1 h.2.1 u
    (fun i k v hi hk hv => mMirror1F R p n cap f v (h.later (b0.trans (hu.trans hv))) _ (m0.later (hu.trans hv)) i k hi hk))
  have HD := hideP h
  have HW := hideP hW
  clear hW h
  go_enter Try.func25, Try.ntmps25
  go_wp2_with fail
  rw [← HW.out]
  refine (mRightF _ _ _ _ _ _).mono ?_
  rintro e w1 ⟨rfl, h1⟩
  rw [hfit]
  obtain ⟨c0, c1, c2, f0, f1, f2, lt⟩ := m0.later h1
  go_wp2_with fail
  refine (FI.out _ h1).mono ?_
  rintro e w2 ⟨p', cap', rfl, ⟨hR, hF⟩, h2⟩
  have HR := hideP hR
  have HF := hideP (show Fresh (w.heap.size + 1 + 1) (.slice p' n cap') from fun g hg => by have := hF g hg; have := h1.size; omega)
  clear hR hF FI c0 c1 c2 f0 f1 f2
  obtain ⟨c0, c1, c2, f0, f1, f2, lt2⟩ := x0.later (h1.trans h2)
  go_wp2
  simp [bodyPost, results, Try.results25, go_sem, c0, c1, c2]
  have q := ((HR.out.set (p := ⟨w.heap.size + 1, 0, none⟩) (.int .i64 R) HF.out).set (p := ⟨w.heap.size + 1, 1, none⟩) (.int .i64 R) HF.out).set (p := ⟨w.heap.size + 1, 2, none⟩) (.slice p' n cap') HF.out
  refine ⟨p', cap', ⟨rfl, rfl⟩, ⟨⟨HD.out.1, HD.out.2.1, q.q⟩, q, fun g hg => by have := HF.out g hg; omega⟩, Bl.put3 ((b0.trans h1).trans h2) (Nat.le_succ _) _ _ _⟩
theorem mMirrorF_no (R C : Nat) (p : Option Addr) (n cap : Nat) (w : World) (hfit : fitB R C n = true) (hne : R ≠ C) :
    Calls Try.prog 25 #[mV R C p n cap] w fun e w' => e = .returned (.tuple #[mV 0 0 none 0 0, .bool false]) ∧ Bl w w' := by
  obtain ⟨W, hW⟩ : ∃ W, W = (w.alloc (.cells #[.int .i64 R, .int .i64 C, .slice p n cap] 27)).alloc (.cells #[.int .i64 0, .int .i64 0, .slice none 0 0] 27) := ⟨_, rfl⟩
  have b0 : Bl w W := by rw [hW]; exact ((Bl.refl _).alloc _).alloc _
  have m0 : MBox W w.heap.size R C p n cap := by rw [hW]; exact (MBox.new w _ _ _ _ _ _).later ((Bl.refl _).alloc _)
  have x0 : MBox W (w.heap.size + 1) 0 0 none 0 0 := by rw [hW]; have := MBox.new (w.alloc (.cells #[.int .i64 R, .int .i64 C, .slice p n cap] 27)) 0 0 none 0 0 27; rw [World.size_alloc] at this; exact this
  have hne' : ((R : Int) == (C : Int)) = false := by simp; omega
  have HW := hideP hW
  clear hW hne
  go_enter Try.func25, Try.ntmps25
  go_wp2_with fail
  rw [← HW.out]
  refine (mRightF _ _ _ _ _ _).mono ?_
  rintro e w1 ⟨rfl, h1⟩
  rw [hfit]
  obtain ⟨c0, c1, c2, f0, f1, f2, lt⟩ := m0.later h1
  obtain ⟨d0, d1, d2, g0, g1, g2, lt2⟩ := x0.later h1
  go_wp2
  simp [bodyPost, results, Try.results25, go_sem, d0, d1, d2]
  exact Bl.put3 (b0.trans h1) (Nat.le_succ _) _ _ _
end Go.Proofs.Ytokbmbgiimbkpaa

/- Contract of the document's Mul (layer 6). -/
namespace Go.Proofs.Ytokbmbgiimbkpaa
open Go.RowKit
set_option linter.unusedSimpArgs false
set_option linter.unusedVariables false

theorem own_blI {w w' : World} {B n : Nat} {v : Value} {l : List Value} (h : w.ownsRow B 3 1 v n l) (k : Bl w w') : w'.ownsRow B 3 1 v n l := by
  refine ⟨h.1, ?_⟩
  rcases h.2 with hn | ⟨g, cap, cur, rfl, hb, hg, rest⟩
  · exact .inl hn
  · exact .inr ⟨g, cap, cur, rfl, hb, (Below.block k g (Array.getElem?_eq_some_iff.1 hg).1).trans hg, rest⟩
theorem newI_cells (w : World) (x : Int) (t : TypeId) : ∀ j u, (cellsI x)[j]? = some u → (w.alloc (.cells #[.int .i64 x] t)).cell? ((⟨w.heap.size, 0, none⟩ : Addr).add j) = some u := by
  intro j u hu
  unfold cellsI at hu
  rcases j with _ | j
  · simp at hu
    subst hu
    simp [go_sem, Addr.add]
  · simp at hu
set_option maxHeartbeats 2000000 in
theorem ref6Mul_any (pa qa : Option Addr) (na ca nb cb : Nat) (xa xb : List Int) (R M D : Nat) (w : World) (hd : Dim R M) (he : Dim M D) (ha : Rq 1 cI w (.slice pa na ca) xa) (hb : Rq 1 cI w (.slice qa nb cb) xb) (la : xa.length = R * M) (lb : xb.length = M * D) (lna : na = R * M) (lnb : nb = M * D) (sa : Sml 100 xa) (sb : Sml 100 xb) :
    Calls Try.prog 21 #[.slice pa na ca, .int .i64 R, .int .i64 M, .slice qa nb cb, .int .i64 D] w fun e w' => ∃ p cap, e = .returned (.slice p (R * D) cap) ∧ Rw 1 cellsI w' (.slice p (R * D) cap) (mk R D (mulI M (ofL M xa) (ofL D xb))) ∧ Bl w w' := by
  obtain ⟨i0, hi, hz0, hz1, hz2⟩ := info_parts Try.info_I
  have fm : Try.prog.follows .mixedOrders = true := by kernel_rfl
  have CA : ∀ i j, i < R → j < M → ∃ b o, pa = some ⟨b, o, none⟩ ∧ ∀ u, Bl w u → u.cell? ⟨b, o + (i * M + j), none⟩ = some (.int .i64 (ofL M xa i j)) := by
    intro i j hi' hj
    have hg := ofL_get la hi' hj
    rcases ha with ⟨_, _, _, h0, _⟩ | ⟨b, o, cc, e, _, hlt, HX⟩
    · rw [h0] at hg; simp at hg
    · cases e
      exact ⟨b, o, rfl, fun u hu => (bl_cell hu _ _ hlt).trans (cellI HX hg (wr := w))⟩
  have CB : ∀ j k, j < M → k < D → ∃ b o, qa = some ⟨b, o, none⟩ ∧ ∀ u, Bl w u → u.cell? ⟨b, o + (j * D + k), none⟩ = some (.int .i64 (ofL D xb j k)) := by
    intro i j hi' hj
    have hg := ofL_get lb hi' hj
    rcases hb with ⟨_, _, _, h0, _⟩ | ⟨b, o, cc, e, _, hlt, HX⟩
    · rw [h0] at hg; simp at hg
    · cases e
      exact ⟨b, o, rfl, fun u hu => (bl_cell hu _ _ hlt).trans (cellI HX hg (wr := w))⟩
  have BA := ofL_sml la sa
  have BB := ofL_sml lb sb
  have BM := fun (i k : Nat) (hi : i < R) (hk : k < D) => mulI_bound (A := 100) (B := 100) (by omega) (by omega) BA BB hi hk
  have HCA := hideP CA
  have HCB := hideP CB
  have HBA := hideP BA
  have HBB := hideP BB
  have HBM := hideP BM
  have hR16 := hd.r2
  have hM16 := hd.c2
  have hD16 := he.c2
  have HLA := hideP lna
  have HLB := hideP lnb
  clear CA CB BA BB BM ha hb la lb sa sb lna lnb
  generalize ofL M xa = fa at *
  generalize ofL D xb = fb at *
  go_enter Try.func21, Try.ntmps21
  go_wp2_with fail
  go_loopw [11, 12] (fun v i wr => ∃ j : Nat, i = .int .i64 j ∧ j ≤ R ∧ wr.ownsRow w.heap.size 3 1 v (mk j D (mulI M fa fb)).length ((mk j D (mulI M fa fb)).flatMap cellsI) ∧ Bl w wr) (fun _ i _ => R - (intOf i).toNat)
  case atStart => exact ⟨0, rfl, Nat.zero_le _, World.ownsRow_nil _ _ _ _, Bl.refl _⟩
  case round =>
    obtain ⟨j, rfl, hj, hown, hB⟩ := hrel
    by_cases hlt : j < R
    · go_wp2_with fail
      go_loopw [11, 13] (fun v i wr => ∃ k : Nat, i = .int .i64 k ∧ k ≤ D ∧ wr.ownsRow w.heap.size 3 1 v (mk j D (mulI M fa fb) ++ rowM k (mulI M fa fb) j).length ((mk j D (mulI M fa fb) ++ rowM k (mulI M fa fb) j).flatMap cellsI) ∧ Bl w wr) (fun _ i _ => D - (intOf i).toNat)
      case atStart => exact ⟨0, rfl, Nat.zero_le _, by simpa [rowM] using hown, hB⟩
      case round =>
        clear hown hB
        obtain ⟨k, rfl, hk, hown, hB⟩ := hrel
        by_cases hlt2 : k < D
        · have HO := hideP hown
          clear hown
          go_wp2_with fail
          go_loopw [14, 15] (fun s i wr' => ∃ m : Nat, i = .int .i64 m ∧ m ≤ M ∧ s = .int .i64 (mulI m fa fb j k) ∧ Bl wr wr') (fun _ i _ => M - (intOf i).toNat)
          case atStart => exact ⟨0, rfl, Nat.zero_le _, rfl, Bl.refl _⟩
          case round =>
            obtain ⟨m, rfl, hm, rfl, hB3⟩ := hrel
            by_cases hlt3 : m < M
            · obtain ⟨b, o, rfl, CX⟩ := HCA.out j m hlt hlt3
              obtain ⟨b', o', rfl, CY⟩ := HCB.out m k hlt3 hlt2
              obtain ⟨a1, q1, e1, e2, hq1, hq3, hq5, hq6⟩ := place hd hlt hlt3
              obtain ⟨a2, q2, e3, e4, hp1, hp3, hp5, hp6⟩ := place he hlt3 hlt2
              rw [← e2] at CX
              rw [← e4] at CY
              rw [← HLA.out] at hq5
              rw [← HLB.out] at hp5
              have cx := CX wr.drew (hB.trans hB3).drew
              have cy := CY wr.drew (hB.trans hB3).drew
              have bx := HBA.out j m hlt hlt3
              have bY := HBB.out m k hlt3 hlt2
              have bm := mul_bound bx bY
              have bd := HBM.out j k hlt hlt2 m hm
              have HS := hideP (mulI_succ m fa fb j k)
              clear CX CY e1 e2 e3 e4
              generalize mulI m fa fb j k = d at *
              generalize fa j m = x at *
              generalize fb m k = y at *
              generalize hxy : x * y = z at *
              go_wp2
              go_region
              go_wp2
              go_roundw
              case rel => exact ⟨m + 1, by simp, hlt3, by rw [HS.out], hB3.drew⟩
              case measure => simp [intOf]; omega
            · obtain rfl : m = M := by omega
              have hB4 := hB.trans hB3
              have hown := own_blI HO.out hB3
              have HT := hideP (show mk j D (mulI m fa fb) ++ rowM (k + 1) (mulI m fa fb) j = (mk j D (mulI m fa fb) ++ rowM k (mulI m fa fb) j) ++ [mulI m fa fb j k] by rw [rowM_succ, List.append_assoc])
              have hlen : (mk j D (mulI m fa fb) ++ rowM k (mulI m fa fb) j).length ≤ 256 := by
                have h1 : j * D + k < R * D := mk_idx hlt hlt2
                have h2 : R * D ≤ 256 := Nat.mul_le_mul hR16 hD16
                rw [List.length_append, mk_len, rowM_len]
                omega
              generalize mk j D (mulI m fa fb) ++ rowM k (mulI m fa fb) j = ys at *
              generalize mulI m fa fb j k = x at *
              go_wp2_with (at_builtin; refine wpList_append_own _ rfl _ _ 22 rfl w.heap.size 3 i0 (.int .i64 0) 1 8 Try.underlying22 hi hz0 hz1 hz2 rfl (by decide) _ _ _ rfl (hown.alloc _) ⟨_, 0, none⟩ 1 1 (cellsI x) rfl rfl (newI_cells _ _ _) (oneI_cells _) (by unfold maxLen; omega) (by omega) (by have := hB4.size; simp; omega) ?_; intro v' w1 hown' hgrow _)
              have R1 := own_more (ys := [x]) (hB4.alloc _) (Nat.le_refl _) (hown.alloc _) (by simpa using hown') rfl hgrow
              clear hown hown' hgrow
              go_wp2
              go_roundw
              case rel => exact ⟨k + 1, by simp, hlt2, by rw [HT.out]; exact R1.2, R1.1⟩
              case measure => simp [intOf]; omega
        · obtain rfl : k = D := by omega
          have HT := hideP (mk_succ j k (mulI M fa fb))
          go_wp2_with fail
          go_roundw
          case rel => exact ⟨j + 1, by simp, hlt, by rw [HT.out]; exact hown, hB⟩
          case measure => simp [intOf]; omega
    · obtain rfl : j = R := by omega
      have RW := hideP (Rw.of_own cellsI_len hown)
      obtain ⟨p', cap', hv, _, _⟩ := RW.out.cut
      rw [mk_len] at hv
      clear hown
      subst hv
      go_wp2
      go_ret
      exact ⟨p', cap', rfl, RW.out, hB⟩
end Go.Proofs.Ytokbmbgiimbkpaa

/- Four rows of whole numbers that grow beside one another; an append as one operation; the numbers that MatSums asks for (layer 6's laws). -/
namespace Go.Proofs.Ytokbmbgiimbkpaa
open Go.RowKit
set_option linter.unusedSimpArgs false
set_option linter.unusedVariables false

/-- Two rows lie in blocks of their own. -/
def Apart (a b : Value) : Prop := ∀ g, a.ownBlock = some g → b.ownBlock ≠ some g
theorem Apart.symm {a b : Value} (h : Apart a b) : Apart b a := fun g hb ha => h g ha hb
abbrev OwnI (n0 : Nat) (u : World) (v : Value) (l : List Int) : Prop := u.ownsRow n0 3 1 v l.length (l.flatMap cellsI)
theorem apart_nil (v : Value) : Apart v (.slice none 0 0) := fun g _ h => by cases h
structure Own4 (n0 : Nat) (u : World) (v1 v2 v3 v4 : Value) (l1 l2 l3 l4 : List Int) : Prop where
  o1 : OwnI n0 u v1 l1
  o2 : OwnI n0 u v2 l2
  o3 : OwnI n0 u v3 l3
  o4 : OwnI n0 u v4 l4
  d12 : Apart v1 v2
  d13 : Apart v1 v3
  d14 : Apart v1 v4
  d23 : Apart v2 v3
  d24 : Apart v2 v4
  d34 : Apart v3 v4
theorem Own4.nil (n0 : Nat) (u : World) : Own4 n0 u (.slice none 0 0) (.slice none 0 0) (.slice none 0 0) (.slice none 0 0) [] [] [] [] :=
  ⟨World.ownsRow_nil _ _ _ _, World.ownsRow_nil _ _ _ _, World.ownsRow_nil _ _ _ _, World.ownsRow_nil _ _ _ _, apart_nil _, apart_nil _, apart_nil _, apart_nil _, apart_nil _, apart_nil _⟩
theorem Own4.later {n0 : Nat} {u u' : World} {v1 v2 v3 v4 : Value} {l1 l2 l3 l4 : List Int} (h : Own4 n0 u v1 v2 v3 v4 l1 l2 l3 l4) (k : Bl u u') : Own4 n0 u' v1 v2 v3 v4 l1 l2 l3 l4 :=
  ⟨own_blI h.o1 k, own_blI h.o2 k, own_blI h.o3 k, own_blI h.o4 k, h.d12, h.d13, h.d14, h.d23, h.d24, h.d34⟩
theorem Own4.to2 {n0 : Nat} {u : World} {v1 v2 v3 v4 : Value} {l1 l2 l3 l4 : List Int} (h : Own4 n0 u v1 v2 v3 v4 l1 l2 l3 l4) : Own4 n0 u v2 v1 v3 v4 l2 l1 l3 l4 :=
  ⟨h.o2, h.o1, h.o3, h.o4, h.d12.symm, h.d23, h.d24, h.d13, h.d14, h.d34⟩
theorem Own4.to3 {n0 : Nat} {u : World} {v1 v2 v3 v4 : Value} {l1 l2 l3 l4 : List Int} (h : Own4 n0 u v1 v2 v3 v4 l1 l2 l3 l4) : Own4 n0 u v3 v2 v1 v4 l3 l2 l1 l4 :=
  ⟨h.o3, h.o2, h.o1, h.o4, h.d23.symm, h.d13.symm, h.d34, h.d12.symm, h.d24, h.d14⟩
theorem Own4.to4 {n0 : Nat} {u : World} {v1 v2 v3 v4 : Value} {l1 l2 l3 l4 : List Int} (h : Own4 n0 u v1 v2 v3 v4 l1 l2 l3 l4) : Own4 n0 u v4 v2 v3 v1 l4 l2 l3 l1 :=
  ⟨h.o4, h.o2, h.o3, h.o1, h.d24.symm, h.d34.symm, h.d14.symm, h.d23, h.d12.symm, h.d13.symm⟩
/-- A row whose block an append to another one leaves as it was. -/
theorem ownI_beside {n0 : Nat} {u u' : World} {v1 v : Value} {l : List Int} (h : OwnI n0 u v l) (hg : u.grownBy u' v1.ownBlock) (ha : Apart v1 v) : OwnI n0 u' v l := by
  refine ⟨h.1, ?_⟩
  rcases h.2 with hn | ⟨g, cap, cur, rfl, hb, hgg, rest⟩
  · exact .inl hn
  · refine .inr ⟨g, cap, cur, rfl, hb, (hg.block g (Array.getElem?_eq_some_iff.1 hgg).1 (fun e => ?_)).trans hgg, rest⟩
    exact ha g e.symm rfl
theorem apart_grown {n0 : Nat} {u : World} {v1 v1' v : Value} {l : List Int} (h : OwnI n0 u v l) (ha : Apart v1 v) (hat : v1'.ownBlock = v1.ownBlock ∨ v1'.ownBlock = some u.heap.size) : Apart v1' v := by
  intro g h1 h2
  rcases hat with e | e
  · exact ha g (e ▸ h1) h2
  · rw [e] at h1
    cases h1
    have := (h.lt _ h2).2
    omega
theorem Own4.grow {n0 : Nat} {u u' : World} {v1 v1' v2 v3 v4 : Value} {l1 l2 l3 l4 ys : List Int} (h : Own4 n0 u v1 v2 v3 v4 l1 l2 l3 l4) (ho : OwnI n0 u' v1' (l1 ++ ys)) (hg : u.grownBy u' v1.ownBlock) (hat : v1'.ownBlock = v1.ownBlock ∨ v1'.ownBlock = some u.heap.size) : Own4 n0 u' v1' v2 v3 v4 (l1 ++ ys) l2 l3 l4 :=
  ⟨ho, ownI_beside h.o2 hg h.d12, ownI_beside h.o3 hg h.d13, ownI_beside h.o4 hg h.d14, apart_grown h.o2 h.d12 hat, apart_grown h.o3 h.d13 hat, apart_grown h.o4 h.d14 hat, h.d23, h.d24, h.d34⟩
/-- What is behind an append to the first of four rows: of what lay below n0 nothing has turned, nor of any block but the row's own. -/
def Beh (n0 : Nat) (w : World) (v1 : Value) (l1 ys : List Int) (v2 v3 v4 : Value) (l2 l3 l4 : List Int) (v' : Value) (w' : World) : Prop :=
  Own4 n0 w' v' v2 v3 v4 (l1 ++ ys) l2 l3 l4 ∧ w.grownBy w' v1.ownBlock ∧ (∀ g, v1.ownBlock = some g → n0 ≤ g)
theorem ownI_append {n0 m : Nat} {w' : World} {v' : Value} {l1 ys : List Int} (hl : ys.length = m) (h : w'.ownsRow n0 3 1 v' (l1.length + m) (l1.flatMap cellsI ++ ys.flatMap cellsI)) : OwnI n0 w' v' (l1 ++ ys) := by
  subst hl
  show w'.ownsRow _ _ _ _ (l1 ++ ys).length ((l1 ++ ys).flatMap cellsI)
  rw [List.length_append, List.flatMap_append]
  exact h
theorem flatI_mapS (xs : List Int) : xs.flatMap cellsI = xs.map (fun x => (.int .i64 x : Value)) := by
  induction xs with
  | nil => rfl
  | cons x xs ih => rw [List.flatMap_cons, ih]; rfl
theorem flatI_len (xs : List Int) : (xs.flatMap cellsI).length = xs.length * 1 := by rw [flatI_mapS]; simp
/-- An append, in a region that draws its order. -/
theorem oper_app {o : Oper} {a : Act} {w : World} {K : Act → World → Prop} {Q : Exit → Act → World → Prop} (s x : Operand) (ho : o.op = .call { callee := .builtin .append, args := #[s, x], argTypes := #[22, 22] })
    {n0 : Nat} {v1 v2 v3 v4 : Value} {l1 l2 l3 l4 : List Int} (hs : a.eval s = v1) (H : Own4 n0 w v1 v2 v3 v4 l1 l2 l3 l4) (ad : Addr) (m c : Nat) (ys : List Int) (hx : a.eval x = .slice (some ad) m c) (hl : ys.length = m)
    (hnews : ∀ j u, (ys.flatMap cellsI)[j]? = some u → w.cell? (ad.add j) = some u) (hb : l1.length + m ≤ 100000) (hn : n0 ≤ w.heap.size)
    (h : ∀ v' w', Beh n0 w v1 l1 ys v2 v3 v4 l2 l3 l4 v' w' → K (a.put o.dst v') w') : o.wp Try.prog a w K Q := by
  obtain ⟨i0, hi, hz0, hz1, hz2⟩ := info_parts Try.info_I
  obtain ⟨v', w', hr, h2, h3, h4, h5⟩ := run_append_own_at (P := Try.prog) w n0 22 o.type 3 i0 (.int .i64 0) 1 8 Try.underlying22 hi hz0 hz1 hz2 rfl (by decide) v1 l1.length (l1.flatMap cellsI) H.o1 ad m c (ys.flatMap cellsI) (by rw [flatI_len, hl]) hnews (flat_one oneI_cells ys) (by unfold maxLen; omega) (by omega) hn
  unfold Oper.wp execOp
  simp only [ho, resolve, invoke, builtin, Sem.run_bind, Sem.run_pure, Result.andThen_ok, List.map_toArray, List.map_cons, List.map_nil, hs, hx, hr]
  exact h v' w' ⟨H.grow (ownI_append hl h2) h3 h5, h3, fun g hg => (H.o1.lt g hg).1⟩
/-- An append, in a region that does not. -/
theorem list_app {ops : Array Oper} {rest : List Oper} {o : Oper} {a : Act} {w : World} {Q : Exit → Act → World → Prop} (hgd : o.guard = none) (s x : Operand) (ho : o.op = .call { callee := .builtin .append, args := #[s, x], argTypes := #[22, 22] })
    {n0 : Nat} {v1 v2 v3 v4 : Value} {l1 l2 l3 l4 : List Int} (hs : a.eval s = v1) (H : Own4 n0 w v1 v2 v3 v4 l1 l2 l3 l4) (ad : Addr) (m c : Nat) (ys : List Int) (hx : a.eval x = .slice (some ad) m c) (hl : ys.length = m)
    (hnews : ∀ j u, (ys.flatMap cellsI)[j]? = some u → w.cell? (ad.add j) = some u) (hb : l1.length + m ≤ 100000) (hn : n0 ≤ w.heap.size)
    (h : ∀ v' w', Beh n0 w v1 l1 ys v2 v3 v4 l2 l3 l4 v' w' → wpList Try.prog ops Q rest (a.put o.dst v') w') : wpList Try.prog ops Q (o :: rest) a w :=
  wpList_plain hgd fun K hK => oper_app s x ho hs H ad m c ys hx hl hnews hb hn (fun v' w' hB => hK _ _ (h v' w' hB))
theorem Beh.bl {n0 : Nat} {w0 w w' : World} {v1 v2 v3 v4 v' : Value} {l1 l2 l3 l4 ys : List Int} (h : Beh n0 w v1 l1 ys v2 v3 v4 l2 l3 l4 v' w') (hb : Bl w0 w) (hn : w0.heap.size ≤ n0) : Bl w0 w' :=
  Below.grown hb h.2.1 hb.size (fun k hk => by have := h.2.2 k hk; omega)
/-- A new number's block, behind an append. -/
theorem Beh.cell {n0 : Nat} {u w w' : World} {v1 v2 v3 v4 v' : Value} {l1 l2 l3 l4 ys : List Int} (h : Beh n0 w v1 l1 ys v2 v3 v4 l2 l3 l4 v' w') (ho : OwnI n0 u v1 l1) {b : Nat} (hb : u.heap.size ≤ b) (hb2 : b < w.heap.size) (off : Nat) : w'.cell? ⟨b, off, none⟩ = w.cell? ⟨b, off, none⟩ :=
  World.cell?_of_block (a := ⟨b, off, none⟩) (h.2.1.block b hb2 (fun e => by have := (ho.lt b e.symm).2; omega))
theorem oneI_at {w : World} {b : Nat} {x : Int} (h : w.cell? ⟨b, 0, none⟩ = some (.int .i64 x)) : ∀ j u, ([x].flatMap cellsI)[j]? = some u → w.cell? ((⟨b, 0, none⟩ : Addr).add j) = some u := by
  intro j u hu
  rcases j with _ | j
  · simp [cellsI] at hu
    subst hu
    simpa [Addr.add] using h
  · simp [cellsI] at hu
theorem new1_cell (w : World) (x : Int) (t : TypeId) : (w.alloc (.cells #[.int .i64 x] t)).cell? ⟨w.heap.size, 0, none⟩ = some (.int .i64 x) := by simp [go_sem]
/-- mat's Beside, of what is too wide. -/
theorem mBesideF_wide (R C : Nat) (p : Option Addr) (n cap : Nat) (q : Option Addr) (n2 cap2 : Nat) (w : World) (hfx : fitB R C n = true) (hfy : fitB R C n2 = true) (h : 16 < C + C) :
    Calls Try.prog 24 #[mV R C p n cap, mV R C q n2 cap2] w fun e w' => e = .returned (.tuple #[mV 0 0 none 0 0, .bool false]) ∧ Bl w w' := by
  obtain ⟨W, hW⟩ : ∃ W, W = ((w.alloc (.cells #[.int .i64 R, .int .i64 C, .slice p n cap] 27)).alloc (.cells #[.int .i64 R, .int .i64 C, .slice q n2 cap2] 27)).alloc (.cells #[.int .i64 0, .int .i64 0, .slice none 0 0] 27) := ⟨_, rfl⟩
  have b0 : Bl w W := by rw [hW]; exact (((Bl.refl _).alloc _).alloc _).alloc _
  have mx0 : MBox W w.heap.size R C p n cap := by rw [hW]; exact ((MBox.new w _ _ _ _ _ _).later ((Bl.refl _).alloc _)).later ((Bl.refl _).alloc _)
  have my0 : MBox W (w.heap.size + 1) R C q n2 cap2 := by rw [hW]; have := (MBox.new (w.alloc (.cells #[.int .i64 R, .int .i64 C, .slice p n cap] 27)) R C q n2 cap2 27).later ((Bl.refl _).alloc (.cells #[.int .i64 0, .int .i64 0, .slice none 0 0] 27)); rw [World.size_alloc] at this; exact this
  have mz0 : MBox W (w.heap.size + 1 + 1) 0 0 none 0 0 := by rw [hW]; have := MBox.new ((w.alloc (.cells #[.int .i64 R, .int .i64 C, .slice p n cap] 27)).alloc (.cells #[.int .i64 R, .int .i64 C, .slice q n2 cap2] 27)) 0 0 none 0 0 27; rw [World.size_alloc, World.size_alloc] at this; exact this
  obtain ⟨R1, C1, hR', hC', hd, hnn⟩ := fitB_nat hfx
  have hC16 : C ≤ 16 := by have := hd.c2; omega
  have hsd : sideB ((C : Int) + (C : Int)) = false := decide_eq_false (by omega)
  have HW := hideP hW
  clear hW hd hR' hC' hnn
  go_enter Try.func24, Try.ntmps24
  go_wp2_with fail
  rw [← HW.out]
  refine (mRightF _ _ _ _ _ _).mono ?_
  rintro e w1 ⟨rfl, h1⟩
  rw [hfx]
  obtain ⟨d0, d1, d2, u0, u1, u2, ltm⟩ := my0.later h1
  go_wp2_with fail
  refine (mRightF _ _ _ _ _ _).mono ?_
  rintro e w2 ⟨rfl, h2⟩
  rw [hfy]
  clear d0 d1 d2 u0 u1 u2 ltm
  obtain ⟨d0, d1, d2, u0, u1, u2, ltm⟩ := my0.later (h1.trans h2)
  obtain ⟨a0, a1, a2, k0, k1, k2, lta⟩ := mx0.later (h1.trans h2)
  go_wp2_with fail
  refine (side_any _ _).mono ?_
  rintro e w3 ⟨rfl, hw3⟩
  replace hw3 := hw3.symm
  subst hw3
  rw [hsd]
  obtain ⟨c0, c1, c2, f0, f1, f2, lt⟩ := mz0.later (h1.trans h2)
  go_wp2
  simp [bodyPost, results, Try.results24, go_sem, c0, c1, c2]
  exact Bl.put3 (b0.trans (h1.trans h2)) (by omega) _ _ _
end Go.Proofs.Ytokbmbgiimbkpaa

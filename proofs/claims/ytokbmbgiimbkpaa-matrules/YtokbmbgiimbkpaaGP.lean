/- MatRules: products of three hang on no brackets; what is turned twice is itself; the unit changes nothing; a product, turned, is that of both turned, the other way round (of 4 by 4 at most, numbers from -100 up to 100). Conditions: none (every input). -/
import Derived.Test.YtokbmbgiimbkpaaMaDF
import Derived.Test.YtokbmbgiimbkpaaMaGF
import Derived.Laws.EntriesVeiled
import Derived.Test.YtokbmbgiimbkpaaMaI
import Derived.Test.YtokbmbgiimbkpaaGY
import Derived.Test.YtokbmbgiimbkpaaVeI
import Derived.ProofKit
import Derived.OpenShut
import Derived.Carry
/- Contracts of mat's each, Add, Sub, of fractions (layer 6). -/
namespace Go.Proofs.Ytokbmbgiimbkpaa
open Go.RowKit
set_option linter.unusedSimpArgs false
set_option linter.unusedVariables false

/-- What the last region of each reads. -/
structure EachS (w : World) (R C : Int) (p q : Option Addr) (n cap cap2 : Nat) (u : World) : Prop where
  x : MBox u w.heap.size R C p n cap
  y : MBox u (w.heap.size + 1) R C q n cap2
  z : ∃ r' c' p' n' k', MBox u (w.heap.size + 1 + 1) r' c' p' n' k'
  bl : Bl w u
theorem Rq.set {α : Type} {s : Nat} {c : α → List Value} {w : World} {v : Value} {xs : List α} (h : Rq s c w v xs) {p : Addr} (u : Value) (hf : Fresh (p.block + 1) v) : Rq s c (w.setCell p u) v xs := by
  rcases h with h | ⟨b, o, cap, rfl, hc, hb, hx⟩
  · exact .inl h
  · have hne : p.block + 1 ≤ b := hf b rfl
    have hk : (w.setCell p u).heap[b]? = w.heap[b]? := Below.heap_setCell _ _ _ b (by omega)
    exact .inr ⟨b, o, cap, rfl, hc, by simpa using hb, fun j x hj k v hv => (World.cell?_of_block (a := ⟨b, o + j * s + k, none⟩) hk).trans (hx j x hj k v hv)⟩
theorem Mx.put3 {α : Type} {s : Nat} {c : α → List Value} {w : World} {R C : Nat} {p : Option Addr} {n cap b : Nat} {f : Nat → Nat → α} (h : Mx s c w R C p n cap f) (hf : Fresh (b + 1) (.slice p n cap)) (v0 v1 v2 : Value) : Mx s c (((w.setCell ⟨b, 0, none⟩ v0).setCell ⟨b, 1, none⟩ v1).setCell ⟨b, 2, none⟩ v2) R C p n cap f :=
  ⟨h.1, h.2.1, ((h.2.2.set (p := ⟨b, 0, none⟩) v0 hf).set (p := ⟨b, 1, none⟩) v1 hf).set (p := ⟨b, 2, none⟩) v2 hf⟩
theorem mbox_set {w : World} {b b' : Nat} {r c : Int} {p : Option Addr} {n cap : Nat} (h : MBox w b r c p n cap) (hne : b ≠ b') (o : Nat) (v : Value) : MBox (w.setCell ⟨b', o, none⟩ v) b r c p n cap :=
  mbox_block h (Below.heap_setCell _ _ _ b (by show b ≠ b'; exact hne)) (by simp)
theorem EachS.later {w : World} {R C : Int} {p q : Option Addr} {n cap cap2 : Nat} {u u' : World} (h : EachS w R C p q n cap cap2 u) (k : Bl u u') : EachS w R C p q n cap cap2 u' :=
  ⟨h.x.later k, h.y.later k, by obtain ⟨a, b, c, d, e, m⟩ := h.z; exact ⟨a, b, c, d, e, m.later k⟩, h.bl.trans k⟩
theorem EachS.stored {w : World} {R C : Int} {p q : Option Addr} {n cap cap2 : Nat} {u : World} (h : EachS w R C p q n cap cap2 u) (r' c' : Int) (p' : Option Addr) (n' cap' : Nat) :
    EachS w R C p q n cap cap2 (((u.setCell ⟨w.heap.size + 1 + 1, 0, none⟩ (.int .i64 r')).setCell ⟨w.heap.size + 1 + 1, 1, none⟩ (.int .i64 c')).setCell ⟨w.heap.size + 1 + 1, 2, none⟩ (.slice p' n' cap')) :=
  ⟨mbox_set (mbox_set (mbox_set h.x (by omega) _ _) (by omega) _ _) (by omega) _ _, mbox_set (mbox_set (mbox_set h.y (by omega) _ _) (by omega) _ _) (by omega) _ _, by obtain ⟨a, b, c, d, e, m⟩ := h.z; exact ⟨_, _, _, _, _, m.fill r' c' p' n' cap'⟩, Bl.put3 h.bl (by omega) _ _ _⟩
set_option maxRecDepth 100000 in
set_option maxHeartbeats 2000000 in
theorem mEach_any (G : Nat) (op : Fr → Fr → Fr) (eg : ∀ (args : Array Value) (w : World), (callFunc G args).run Try.prog w = .ok (.enter G args) w) (R C : Nat) (p q : Option Addr) (n cap cap2 : Nat) (f g : Nat → Nat → Fr) (w : World) (hx : Mx 3 cellsF w R C p n cap f) (hy : Mx 3 cellsF w R C q n cap2 g)
    (hG : ∀ (va vb : Value) (xs ys : List Fr) (w : World), Rq 3 cellsF w va xs → Rq 3 cellsF w vb ys → xs.length ≤ 1000000 → ys.length ≤ 1000000 → Calls Try.prog G #[va, vb] w fun e w' => ∃ u, e = .returned u ∧ Rw 3 cellsF w' u (List.zipWith op xs ys) ∧ Fresh w.heap.size u ∧ Bl w w') :
    Calls Try.prog 42 #[mV R C p n cap, mV R C q n cap2, .func (.func G) #[] #[]] w fun e w' => ∃ p' cap', e = .returned (.tuple #[mV R C p' n cap', .bool true]) ∧ (Mx 3 cellsF w' R C p' n cap' (fun i k => op (f i k) (g i k)) ∧ Fresh w.heap.size (.slice p' n cap')) ∧ Bl w w' := by
  have hfx := hx.fit
  have fm : Try.prog.follows .mixedOrders = true := by kernel_rfl
  obtain ⟨W, hW⟩ : ∃ W, W = ((w.alloc (.cells #[.int .i64 R, .int .i64 C, .slice p n cap] 27)).alloc (.cells #[.int .i64 R, .int .i64 C, .slice q n cap2] 27)).alloc (.cells #[.int .i64 0, .int .i64 0, .slice none 0 0] 27) := ⟨_, rfl⟩
  have b0 : Bl w W := by rw [hW]; exact (((Bl.refl _).alloc _).alloc _).alloc _
  have mx0 : MBox W w.heap.size R C p n cap := by rw [hW]; exact (MBox.new w _ _ _ _ _ _).later (((Bl.refl _).alloc _).alloc _)
  have my0 : MBox W (w.heap.size + 1) R C q n cap2 := by rw [hW]; have := (MBox.new (w.alloc (.cells #[.int .i64 R, .int .i64 C, .slice p n cap] 27)) R C q n cap2 27); rw [World.size_alloc] at this; exact this.later ((Bl.refl _).alloc _)
  have mz0 : MBox W (w.heap.size + 1 + 1) 0 0 none 0 0 := by rw [hW]; have := MBox.new ((w.alloc (.cells #[.int .i64 R, .int .i64 C, .slice p n cap] 27)).alloc (.cells #[.int .i64 R, .int .i64 C, .slice q n cap2] 27)) 0 0 none 0 0 27; rw [World.size_alloc, World.size_alloc] at this; exact this
  have hs0 : W.heap.size = w.heap.size + 1 + 1 + 1 := by rw [hW]; simp
  have HX := hideP hx
  have HY := hideP hy
  have HG := hideP hG
  have HW := hideP hW
  clear hW hx hy hG
  go_enter Try.func42, Try.ntmps42
  go_wp2_with fail
  rw [← HW.out]
  refine (mRightF _ _ _ _ _ _).mono ?_
  rintro e w1 ⟨rfl, h1⟩
  rw [hfx]
  obtain ⟨d0, d1, d2, u0, u1, u2, ltm⟩ := my0.later h1
  go_wp2_with fail
  refine (mRightF _ _ _ _ _ _).mono ?_
  rintro e w2 ⟨rfl, h2⟩
  rw [hfx]
  clear d0 d1 d2 u0 u1 u2 ltm
  have hB2 : Bl W w2 := h1.trans h2
  obtain ⟨c0, c1, c2, f0, f1, f2, lt⟩ := mx0.later hB2
  obtain ⟨d0, d1, d2, u0, u1, u2, ltm⟩ := my0.later hB2
  go_wp2_with fail
  clear c0 c1 c2 f0 f1 f2 lt d0 d1 d2 u0 u1 u2 ltm
  have ES : EachS w R C p q n cap cap2 w2 := ⟨mx0.later hB2, my0.later hB2, ⟨_, _, _, _, _, mz0.later hB2⟩, b0.trans hB2⟩
  have CL := hideP (fun (u : World) (hu : Bl w u) => (HG.out (.slice p n cap) (.slice q n cap2) (mk R C f) (mk R C g) u (HX.out.2.2.later hu) (HY.out.2.2.later hu) (by rw [mk_len]; have := HX.out.1.lt; omega) (by rw [mk_len]; have := HX.out.1.lt; omega)).mono (R' := fun e w' => ∃ p' cap', e = .returned (.slice p' n cap') ∧ (Rw 3 cellsF w' (.slice p' n cap') (mk R C (fun i k => op (f i k) (g i k))) ∧ Fresh u.heap.size (.slice p' n cap')) ∧ Bl u w') (by
    rintro e w' ⟨v, rfl, hr, hf, hb⟩
    rw [mk_zip] at hr
    obtain ⟨p', cap', rfl, _, _⟩ := hr.cut
    rw [mk_len, ← HX.out.2.1] at hr hf ⊢
    exact ⟨p', cap', rfl, ⟨hr, hf⟩, hb⟩))
  have KP := hideP (fun (u : World) (hu : EachS w R C p q n cap cap2 u) => (show u.cell? ⟨w.heap.size, 0, none⟩ = some (.int .i64 R) ∧ u.cell? ⟨w.heap.size, 1, none⟩ = some (.int .i64 C) ∧ u.cell? ⟨w.heap.size, 2, none⟩ = some (.slice p n cap) ∧ u.cell? ⟨w.heap.size + 1, 2, none⟩ = some (.slice q n cap2) ∧ EachS w R C p q n cap cap2 u from ⟨hu.x.c0, hu.x.c1, hu.x.c2, hu.y.c2, hu⟩))
  have HES := hideP ES
  clear ES mx0 my0 mz0
  go_region_held3 (fun u => u.cell? ⟨w.heap.size, 0, none⟩ = some (.int .i64 R) ∧ u.cell? ⟨w.heap.size, 1, none⟩ = some (.int .i64 C) ∧ u.cell? ⟨w.heap.size, 2, none⟩ = some (.slice p n cap) ∧ u.cell? ⟨w.heap.size + 1, 2, none⟩ = some (.slice q n cap2) ∧ EachS w R C p q n cap cap2 u)
    (first | exact KP.out _ ((HES.out.later (show Bl w2 w3 by repeat (first | exact Bl.refl _ | apply Bl.drew | (refine Bl.trans ?_ (by assumption))))).stored _ _ _ _ _) | exact KP.out _ (HES.out.later (by repeat (first | exact Bl.refl _ | apply Bl.drew | (refine Bl.trans ?_ (by assumption))))))
    (first
      | (refine (CL.out _ (HES.out.later (by repeat (first | exact Bl.refl _ | apply Bl.drew | (refine Bl.trans ?_ (by assumption))))).bl).mono ?_; rintro e w3 ⟨p', cap', rfl, ⟨hR, hF⟩, h3⟩; obtain ⟨a1, a2, a3, a4, a5, ⟨z0, z1, z2, y0, y1, y2, ltz⟩⟩ := (HES.out.later (show Bl w2 w3 by repeat (first | exact Bl.refl _ | apply Bl.drew | (refine Bl.trans ?_ (by assumption))))).z))
  have hF' : Fresh (w.heap.size + 1 + 1 + 1) (.slice p' n cap') := fun b hb => by
    have h1 := hF b hb
    have h2 := hB2.size
    have h4 : w2.heap.size ≤ w2.drew.heap.size := Nat.le_refl _
    omega
  have HR := hideP hR
  have HF := hideP hF'
  clear hR hF hF'
  rename_i hh
  obtain ⟨_, _, _, _, hS⟩ := hh
  have HS := hideP hS
  clear hS
  go_wp2
  simp [bodyPost, results, Try.results42, go_sem, z0, z1, z2]
  have q := ((HR.out.set (p := ⟨w.heap.size + 1 + 1, 0, none⟩) (.int .i64 R) HF.out).set (p := ⟨w.heap.size + 1 + 1, 1, none⟩) (.int .i64 C) HF.out).set (p := ⟨w.heap.size + 1 + 1, 2, none⟩) (.slice p' n cap') HF.out
  exact ⟨p', cap', ⟨rfl, rfl⟩, ⟨⟨HX.out.1, HX.out.2.1, q.q⟩, fun b hb => by have := HF.out b hb; omega⟩, HS.out.bl⟩
theorem mAdd_any (R C : Nat) (p q : Option Addr) (n cap cap2 : Nat) (f g : Nat → Nat → Fr) (w : World) (hx : Mx 3 cellsF w R C p n cap f) (hy : Mx 3 cellsF w R C q n cap2 g) :
    Calls Try.prog 22 #[mV R C p n cap, mV R C q n cap2] w fun e w' => ∃ p' cap', e = .returned (.tuple #[mV R C p' n cap', .bool true]) ∧ Mx 3 cellsF w' R C p' n cap' (fun i k => addR (f i k) (g i k)) ∧ Bl w w' := by
  obtain ⟨W, hW⟩ : ∃ W, W = ((w.alloc (.cells #[.int .i64 R, .int .i64 C, .slice p n cap] 27)).alloc (.cells #[.int .i64 R, .int .i64 C, .slice q n cap2] 27)).alloc (.cells #[.int .i64 0, .int .i64 0, .slice none 0 0] 27) := ⟨_, rfl⟩
  have b0 : Bl w W := by rw [hW]; exact (((Bl.refl _).alloc _).alloc _).alloc _
  have mz0 : MBox W (w.heap.size + 1 + 1) 0 0 none 0 0 := by rw [hW]; have := MBox.new ((w.alloc (.cells #[.int .i64 R, .int .i64 C, .slice p n cap] 27)).alloc (.cells #[.int .i64 R, .int .i64 C, .slice q n cap2] 27)) 0 0 none 0 0 27; rw [World.size_alloc, World.size_alloc] at this; exact this
  have hs0 : W.heap.size = w.heap.size + 1 + 1 + 1 := by rw [hW]; simp
  have E := hideP (mEach_any 43 addR (enters_of Try.func43 (by kernel_rfl) rfl) R C p q n cap cap2 f g W (hx.later b0) (hy.later b0) (fun va vb xs ys w h1 h2 h3 h4 => vAddF' va vb xs ys w h1 h2 h3 h4))
  have HW := hideP hW
  clear hW hx hy
  go_enter Try.func22, Try.ntmps22
  go_wp2_with fail
  rw [← HW.out]
  refine E.out.mono ?_
  rintro e w1 ⟨p', cap', rfl, ⟨hm, hf⟩, h1⟩
  have HM := hideP hm
  have HF := hideP (show Fresh (w.heap.size + 1 + 1 + 1) (.slice p' n cap') from fun b hb => by have := hf b hb; omega)
  obtain ⟨z0, z1, z2, y0, y1, y2, ltz⟩ := mz0.later h1
  clear hm hf E
  go_wp2
  simp [bodyPost, results, Try.results22, go_sem, z0, z1, z2]
  exact ⟨p', cap', ⟨rfl, rfl⟩, Mx.put3 HM.out HF.out _ _ _, Bl.put3 (b0.trans h1) (by omega) _ _ _⟩
theorem mSub_any (R C : Nat) (p q : Option Addr) (n cap cap2 : Nat) (f g : Nat → Nat → Fr) (w : World) (hx : Mx 3 cellsF w R C p n cap f) (hy : Mx 3 cellsF w R C q n cap2 g) :
    Calls Try.prog 23 #[mV R C p n cap, mV R C q n cap2] w fun e w' => ∃ p' cap', e = .returned (.tuple #[mV R C p' n cap', .bool true]) ∧ Mx 3 cellsF w' R C p' n cap' (fun i k => subR (f i k) (g i k)) ∧ Bl w w' := by
  obtain ⟨W, hW⟩ : ∃ W, W = ((w.alloc (.cells #[.int .i64 R, .int .i64 C, .slice p n cap] 27)).alloc (.cells #[.int .i64 R, .int .i64 C, .slice q n cap2] 27)).alloc (.cells #[.int .i64 0, .int .i64 0, .slice none 0 0] 27) := ⟨_, rfl⟩
  have b0 : Bl w W := by rw [hW]; exact (((Bl.refl _).alloc _).alloc _).alloc _
  have mz0 : MBox W (w.heap.size + 1 + 1) 0 0 none 0 0 := by rw [hW]; have := MBox.new ((w.alloc (.cells #[.int .i64 R, .int .i64 C, .slice p n cap] 27)).alloc (.cells #[.int .i64 R, .int .i64 C, .slice q n cap2] 27)) 0 0 none 0 0 27; rw [World.size_alloc, World.size_alloc] at this; exact this
  have hs0 : W.heap.size = w.heap.size + 1 + 1 + 1 := by rw [hW]; simp
  have E := hideP (mEach_any 44 subR (enters_of Try.func44 (by kernel_rfl) rfl) R C p q n cap cap2 f g W (hx.later b0) (hy.later b0) (fun va vb xs ys w h1 h2 h3 h4 => vSubF' va vb xs ys w h1 h2 h3 h4))
  have HW := hideP hW
  clear hW hx hy
  go_enter Try.func23, Try.ntmps23
  go_wp2_with fail
  rw [← HW.out]
  refine E.out.mono ?_
  rintro e w1 ⟨p', cap', rfl, ⟨hm, hf⟩, h1⟩
  have HM := hideP hm
  have HF := hideP (show Fresh (w.heap.size + 1 + 1 + 1) (.slice p' n cap') from fun b hb => by have := hf b hb; omega)
  obtain ⟨z0, z1, z2, y0, y1, y2, ltz⟩ := mz0.later h1
  clear hm hf E
  go_wp2
  simp [bodyPost, results, Try.results23, go_sem, z0, z1, z2]
  exact ⟨p', cap', ⟨rfl, rfl⟩, Mx.put3 HM.out HF.out _ _ _, Bl.put3 (b0.trans h1) (by omega) _ _ _⟩
end Go.Proofs.Ytokbmbgiimbkpaa

/- An append of a matrix's row to a row, of fractions: a region that draws its order (layer 6). -/
namespace Go.Proofs.Ytokbmbgiimbkpaa
open Go.RowKit Go.Shelf
set_option linter.unusedSimpArgs false
set_option linter.unusedVariables false

theorem flat_cellsF_len (xs : List Fr) : (xs.flatMap cellsF).length = xs.length * 3 := flat_len cellsF_len xs
theorem Try.loadMF (B : Nat) (r c : Int) (p : Option Addr) (n cap : Nat) (u : World) (h : MBox u B r c p n cap) : (Instr.loadAt 27 (.pointer (some ⟨B, 0, none⟩))).run Try.prog u = .ok (mV r c p n cap) u := by
  simp [go_sem, h.c0, h.c1, h.c2]
/-- Between two of its operations. -/
def RowI (d : Nat) (a : Act) (W : World) (v v1 v2 : Value) (C : Nat) (row : List Fr) (base : Nat) (xs : List Fr) (B : Nat) (L : Nat → Bool) (act : Act) (u : World) : Prop :=
  a.tmps.size = act.tmps.size ∧ (∀ s, s < d → act.eval (.tmp s) = a.eval (.tmp s)) ∧ (L 3 = true → L 1 = true ∧ L 2 = true) ∧ (L 4 = true → L 0 = true ∧ L 3 = true) ∧ (L 5 = true → L 4 = true)
    ∧ (L 4 = false → Bl W u ∧ (L 0 = true → act.eval (.tmp d) = v) ∧ (L 1 = true → act.eval (.tmp (d + 1)) = v1) ∧ (L 2 = true → act.eval (.tmp (d + 2)) = v2) ∧ (L 3 = true → ∃ p' cap', act.eval (.tmp (d + 3)) = .slice p' C cap' ∧ Rw 3 cellsF u (.slice p' C cap') row))
    ∧ (L 4 = true → ∃ u0 w5 g' cap', Bl W u0 ∧ u0.grownBy w5 v.ownBlock ∧ w5.ownsRow base 31 3 (.slice (some ⟨g', 0, none⟩) (xs.length + C) cap') (xs.length + C) (xs.flatMap cellsF ++ row.flatMap cellsF) ∧ (some g' = v.ownBlock ∨ g' = u0.heap.size)
        ∧ (L 5 = false → u = w5 ∧ act.eval (.tmp (d + 4)) = .slice (some ⟨g', 0, none⟩) (xs.length + C) cap') ∧ (L 5 = true → u = w5.setCell ⟨B, 0, none⟩ (.slice (some ⟨g', 0, none⟩) (xs.length + C) cap')))
theorem ownsRow_some {w : World} {base s m : Nat} {e : TypeId} {v : Value} {l : List Value} (h : w.ownsRow base e s v m l) (hm : 0 < m) : ∃ g cap, v = .slice (some ⟨g, 0, none⟩) m cap := by
  rcases h.2 with ⟨_, h0⟩ | ⟨g, cap, cur, rfl, _⟩
  · omega
  · exact ⟨g, cap, rfl⟩
set_option maxHeartbeats 1000000 in
theorem rowAppend {F : Fence} {m : Nat} {ops : Array Oper} {o0 o1 o2 o3 o4 o5 : Oper} {Q : Exit → Act → World → Prop} {a : Act} {W : World} {id : Nat} (hops : ops = #[o0, o1, o2, o3, o4, o5]) (hlow : lowB ops = true) (d sL fD : Nat) (ts : Array TypeId) (hsz : d + 5 ≤ a.tmps.size) (hsL : sL < d)
    (g0 : o0.guard = none ∧ o0.dst = some d ∧ o0.op = .load 25 (.tmp sL)) (g1 : o1.guard = none ∧ o1.dst = some (d + 1)) (g2 : o2.guard = none ∧ o2.dst = some (d + 2))
    (g3 : o3.guard = none ∧ o3.dst = some (d + 3) ∧ o3.op = .call { callee := .value (.func fD), args := #[.tmp (d + 1), .tmp (d + 2)], argTypes := ts })
    (g4 : o4.guard = none ∧ o4.dst = some (d + 4) ∧ o4.op = .call { callee := .builtin .append, args := #[.tmp d, .tmp (d + 3)], argTypes := #[25, 25] })
    (g5 : o5.guard = none ∧ o5.dst = none ∧ o5.op = .store 25 (.tmp sL) (.tmp (d + 4)))
    (e3 : (⟨1, .data⟩ : Edge) ∈ o3.after ∧ (⟨2, .data⟩ : Edge) ∈ o3.after) (e4 : (⟨0, .data⟩ : Edge) ∈ o4.after ∧ (⟨3, .data⟩ : Edge) ∈ o4.after) (e5 : (⟨4, .data⟩ : Edge) ∈ o5.after)
    (v1 v2 : Value) (h1 : ∀ (act : Act) (u : World) (K : Act → World → Prop), (∀ s, s < d → act.eval (.tmp s) = a.eval (.tmp s)) → Bl W u → K (act.put (some (d + 1)) v1) u → Oper.wpIn F m Try.prog o1 act u K Q)
    (h2 : ∀ (act : Act) (u : World) (K : Act → World → Prop), (∀ s, s < d → act.eval (.tmp s) = a.eval (.tmp s)) → Bl W u → K (act.put (some (d + 2)) v2) u → Oper.wpIn F m Try.prog o2 act u K Q)
    (hF : F.fn fD) (hdep : F.depth.isSome = true → 1 ≤ m) (eg : ∀ args w, (callFunc fD args).run Try.prog w = .ok (.enter fD args) w) (C : Nat) (hC0 : 0 < C) (hC1 : C ≤ 1000) (row : List Fr) (hrl : row.length = C)
    (hC : ∀ u, Bl W u → CallsIn F (m - 1) Try.prog fD #[v1, v2] u fun e w' => ∃ p' cap', e = .returned (.slice p' C cap') ∧ Rw 3 cellsF w' (.slice p' C cap') row ∧ Bl u w')
    (B : Nat) (hB : a.eval (.tmp sL) = .pointer (some ⟨B, 0, none⟩)) (v : Value) (hv : Boxed W B 25 v) (base : Nat) (xs : List Fr) (hown : W.ownsRow base 31 3 v xs.length (xs.flatMap cellsF)) (hlen : xs.length ≤ 100000) (hbase : base ≤ W.heap.size)
    (fin : ∀ act u0 w5 g' cap', Bl W u0 → u0.grownBy w5 v.ownBlock → w5.ownsRow base 31 3 (.slice (some ⟨g', 0, none⟩) (xs.length + C) cap') (xs.length + C) (xs.flatMap cellsF ++ row.flatMap cellsF) → (some g' = v.ownBlock ∨ g' = u0.heap.size) → Q .normal act (w5.setCell ⟨B, 0, none⟩ (.slice (some ⟨g', 0, none⟩) (xs.length + C) cap'))) :
    (Code.region id ops true).wpIn F m Try.prog Q a W := by
  obtain ⟨i0, hi, hz0, hz1, hz2⟩ := info_parts Try.info_F
  have fm : Try.prog.follows .mixedOrders = true := by kernel_rfl
  refine region_facts fm (lowB_low hlow) (RowI d a W v v1 v2 C row base xs B) ?_ ?_ ?_
  · exact ⟨rfl, fun _ _ => rfl, nofun, nofun, nofun, fun _ => ⟨(Bl.refl _).drew, nofun, nofun, nofun, nofun⟩, nofun⟩
  · intro L act u i o ⟨hs, hfr, c3, c4, c5, hpre, hpost⟩ ho hLi hall
    have hlt : i < 6 := by have := (Array.getElem?_eq_some_iff.1 ho).1; rw [hops] at this; simpa using this
    have sv : ∀ (e : Nat) (x : Value), e < act.tmps.size → (act.put (some e) x).eval (.tmp e) = x := fun e x h => eval_put_same h
    have ne4 : (L 4 = true → False) → L 4 = false := fun h => by cases hh : L 4 <;> simp_all
    have fr : ∀ (e : Nat) (x : Value), d ≤ e → ∀ s, s < d → (act.put (some e) x).eval (.tmp s) = a.eval (.tmp s) := fun e x he s hs => by rw [eval_put_other (by omega)]; exact hfr s hs
    rcases (by omega : i = 0 ∨ i = 1 ∨ i = 2 ∨ i = 3 ∨ i = 4 ∨ i = 5) with rfl | rfl | rfl | rfl | rfl | rfl
    · obtain rfl : o = o0 := by rw [hops] at ho; simpa using ho.symm
      have l4 : L 4 = false := ne4 fun h => by rw [(c4 h).1] at hLi; cases hLi
      obtain ⟨hb, p0, p1, p2, p3⟩ := hpre l4
      refine step_wp ho g0.1 (load_wp _ _ g0.2.2 (v := v) (by rw [hfr _ hsL, hB]; exact Try.load1F B v u (boxed_bl hv hb).cell) ?_)
      rw [g0.2.1]
      refine ⟨by rw [size_put]; exact hs, fr _ _ (Nat.le_refl _), by simpa using c3, by simp [l4], by simpa using c5, fun _ => ⟨hb, fun _ => sv _ _ (by omega), ?_, ?_, ?_⟩, by simp [l4]⟩
      all_goals (simp only [Nat.reduceEqDiff, Nat.reduceBEq, Bool.or_false]; intro h; rw [eval_put_other (by omega)])
      · exact p1 h
      · exact p2 h
      · exact p3 h
    · obtain rfl : o = o1 := by rw [hops] at ho; simpa using ho.symm
      have l3 : L 3 = false := by cases hh : L 3 <;> simp_all
      have l4 : L 4 = false := ne4 fun h => by rw [(c4 h).2] at l3; cases l3
      obtain ⟨hb, p0, p1, p2, p3⟩ := hpre l4
      refine step_wp ho g1.1 (h1 act u _ hfr hb ?_)
      refine ⟨by rw [size_put]; exact hs, fr _ _ (by omega), by simp [l3], by simp [l4], by simpa using c5, fun _ => ⟨hb, ?_, fun _ => sv _ _ (by omega), ?_, by simp [l3]⟩, by simp [l4]⟩
      all_goals (simp only [Nat.reduceEqDiff, Nat.reduceBEq, Bool.or_false]; intro h; rw [eval_put_other (by omega)])
      · exact p0 h
      · exact p2 h
    · obtain rfl : o = o2 := by rw [hops] at ho; simpa using ho.symm
      have l3 : L 3 = false := by cases hh : L 3 <;> simp_all
      have l4 : L 4 = false := ne4 fun h => by rw [(c4 h).2] at l3; cases l3
      obtain ⟨hb, p0, p1, p2, p3⟩ := hpre l4
      refine step_wp ho g2.1 (h2 act u _ hfr hb ?_)
      refine ⟨by rw [size_put]; exact hs, fr _ _ (by omega), by simp [l3], by simp [l4], by simpa using c5, fun _ => ⟨hb, ?_, ?_, fun _ => sv _ _ (by omega), by simp [l3]⟩, by simp [l4]⟩
      all_goals (simp only [Nat.reduceEqDiff, Nat.reduceBEq, Bool.or_false]; intro h; rw [eval_put_other (by omega)])
      · exact p0 h
      · exact p1 h
    · obtain rfl : o = o3 := by rw [hops] at ho; simpa using ho.symm
      have l1 : L 1 = true := hall _ e3.1 rfl
      have l2 : L 2 = true := hall _ e3.2 rfl
      have l4 : L 4 = false := ne4 fun h => by rw [(c4 h).2] at hLi; cases hLi
      obtain ⟨hb, p0, p1, p2, p3⟩ := hpre l4
      refine step_wp ho g3.1 (call2_wp fD _ _ _ g3.2.2 hF hdep eg (by rw [p1 l1, p2 l2]; exact hC u hb) ?_)
      rintro e w' ⟨p', cap', rfl, hrw, hb'⟩
      refine ⟨_, rfl, ?_⟩
      rw [g3.2.1]
      refine ⟨by rw [size_put]; exact hs, fr _ _ (by omega), by simp [l1, l2], by simp [l4], by simpa using c5, fun _ => ⟨hb.trans hb', ?_, ?_, ?_, fun _ => ⟨p', cap', sv _ _ (by omega), hrw⟩⟩, by simp [l4]⟩
      all_goals (simp only [Nat.reduceEqDiff, Nat.reduceBEq, Bool.or_false]; intro h; rw [eval_put_other (by omega)])
      · exact p0 h
      · exact p1 h
      · exact p2 h
    · obtain rfl : o = o4 := by rw [hops] at ho; simpa using ho.symm
      have l0 : L 0 = true := hall _ e4.1 rfl
      have l3 : L 3 = true := hall _ e4.2 rfl
      have l5 : L 5 = false := by cases hh : L 5 <;> simp_all
      obtain ⟨hb, p0, p1, p2, p3⟩ := hpre hLi
      obtain ⟨pr, cr, hg, hrw⟩ := p3 l3
      rcases hrw with ⟨_, h0⟩ | ⟨b, o', cc, e, _, hbl, hx⟩
      · rw [h0] at hrl; simp at hrl; omega
      obtain ⟨hpr, hcr⟩ : pr = some ⟨b, o', none⟩ ∧ cr = cc := by cases e; exact ⟨rfl, rfl⟩
      subst hpr hcr
      clear e
      refine step_wp ho g4.1 (stepIn_append (.tmp d) (.tmp (d + 3)) 25 g4.2.2 base 31 i0 (.agg #[.int .i64 0, .int .i64 0, .bool false]) 3 24 Try.underlying25 hi hz0 hz1 hz2 rfl (by decide) v xs.length (xs.flatMap cellsF) (p0 l0) (own_blF hown hb) ⟨b, o', none⟩ C cr (row.flatMap cellsF) hg (by rw [flat_cellsF_len, hrl]) (flat_cells cellsF_len hx) (flat_one oneF_cells row) (by unfold maxLen; omega) (by omega) (by have := hb.size; omega) ?_)
      intro v' w5 hown' hgrow hat
      obtain ⟨g', cap', rfl⟩ := ownsRow_some hown' (by omega)
      rw [g4.2.1]
      refine ⟨by rw [size_put]; exact hs, fr _ _ (by omega), by simpa using c3, by simp [l0, l3], by simp [l5], by simp, fun _ => ⟨u, w5, g', cap', hb, hgrow, hown', ?_, fun _ => ⟨rfl, sv _ _ (by omega)⟩, by simp [l5]⟩⟩
      rcases hat with h | h
      · exact .inl h
      · exact .inr (by simpa [Value.ownBlock] using h)
    · obtain rfl : o = o5 := by rw [hops] at ho; simpa using ho.symm
      have l4 : L 4 = true := hall _ e5 rfl
      obtain ⟨u0, w5, g', cap', k1, k2, k3, k4, k5, _⟩ := hpost l4
      obtain ⟨rfl, ev⟩ := k5 hLi
      have hv5 : Boxed u B 25 v := (boxed_bl hv k1).kept k2 ((boxed_bl hv k1).not_row (by decide) (own_blF hown k1))
      refine step_wp ho g5.1 (store_wp _ _ _ g5.2.2 (by rw [hfr _ hsL, hB, ev]; exact Try.store1F B _ _ _ v u hv5.cell hv5.frozen) ?_)
      rw [g5.2.1]
      exact ⟨by rw [size_put]; exact hs, fun s hs => hfr s hs, by simpa using c3, by simpa using c4, by simp [l4], by simp [l4], fun _ => ⟨u0, u, g', cap', k1, k2, k3, k4, by simp, fun _ => rfl⟩⟩
  · intro L act u ⟨hs, hfr, c3, c4, c5, hpre, hpost⟩ hL
    have hL' : ∀ j, j < 6 → L j = true := fun j hj => hL j (by rw [hops]; simpa using hj)
    obtain ⟨u0, w5, g', cap', k1, k2, k3, k4, _, k6⟩ := hpost (hL' 4 (by omega))
    rw [k6 (hL' 5 (by omega))]
    exact fin act u0 w5 g' cap' k1 k2 k3 k4
end Go.Proofs.Ytokbmbgiimbkpaa

/- mat's Beside, of fractions (layer 6). -/
namespace Go.Proofs.Ytokbmbgiimbkpaa
open Go.RowKit Go.Shelf
set_option linter.unusedSimpArgs false
set_option linter.unusedVariables false
attribute [local go_sem] Oper.semAt_some

set_option maxRecDepth 100000 in
set_option maxHeartbeats 4000000 in
theorem mBesideF (R C D : Nat) (p : Option Addr) (n cap : Nat) (f : Nat → Nat → Fr) (q : Option Addr) (n2 cap2 : Nat) (g : Nat → Nat → Fr) (E N : Nat) (w : World) (hx : Mx 3 cellsF w R C p n cap f) (hy : Mx 3 cellsF w R D q n2 cap2 g) (hE : E = C + D) (hE16 : E ≤ 16) (hN : N = R * E) :
    Calls Try.prog 24 #[mV R C p n cap, mV R D q n2 cap2] w fun e w' => ∃ p' cap', e = .returned (.tuple #[mV R E p' N cap', .bool true]) ∧ Mx 3 cellsF w' R E p' N cap' (besideM C f g) ∧ Bl w w' := by
  obtain ⟨i0, hi, hz0, hz1, hz2⟩ := info_parts Try.info_F
  refine (callsIn_wide (n := 8)).1 ?_
  have hfx := hx.fit
  have hfy := hy.fit
  have hdR := hx.1
  have hdD := hy.1
  have hR16 := hdR.r2
  have hC16 := hdR.c2
  have hD16 := hdD.c2
  have hC1 := hdR.c1
  have hD1 := hdD.c1
  have hR1 := hdR.r1
  have hNN : n + n2 = N := by rw [hx.2.1, hy.2.1, hN, hE, Nat.mul_add]
  have hNi : (n : Int) + (n2 : Int) = N := by omega
  have hEi : (C : Int) + (D : Int) = E := by omega
  have hN256 : N ≤ 256 := by rw [hN]; exact Nat.mul_le_mul hR16 hE16
  have hside : sideB E = true := decide_eq_true ⟨by omega, by omega⟩
  have HE := hideP hE
  have HN := hideP hN
  have HXm := hideP hx
  have HYm := hideP hy
  clear hx hy hE hN hNN
  obtain ⟨W, hW⟩ : ∃ W, W = ((w.alloc (.cells #[.int .i64 R, .int .i64 C, .slice p n cap] 27)).alloc (.cells #[.int .i64 R, .int .i64 D, .slice q n2 cap2] 27)).alloc (.cells #[.int .i64 0, .int .i64 0, .slice none 0 0] 27) := ⟨_, rfl⟩
  have b0 : Bl w W := by rw [hW]; exact (((Bl.refl _).alloc _).alloc _).alloc _
  have mx0 : MBox W w.heap.size R C p n cap := by rw [hW]; exact (MBox.new w _ _ _ _ _ _).later (((Bl.refl _).alloc _).alloc _)
  have my0 : MBox W (w.heap.size + 1) R D q n2 cap2 := by rw [hW]; have := (MBox.new (w.alloc (.cells #[.int .i64 R, .int .i64 C, .slice p n cap] 27)) R D q n2 cap2 27); rw [World.size_alloc] at this; exact this.later ((Bl.refl _).alloc _)
  have mz0 : MBox W (w.heap.size + 1 + 1) 0 0 none 0 0 := by rw [hW]; have := MBox.new ((w.alloc (.cells #[.int .i64 R, .int .i64 C, .slice p n cap] 27)).alloc (.cells #[.int .i64 R, .int .i64 D, .slice q n2 cap2] 27)) 0 0 none 0 0 27; rw [World.size_alloc, World.size_alloc] at this; exact this
  have hs0 : W.heap.size = w.heap.size + 1 + 1 + 1 := by rw [hW]; simp
  have HW := hideP hW
  clear hW
  refine callsIn_of_wp_marks Try.func24 rfl trivial ?_ rfl
  simp only [Try.ntmps24, List.size_toArray, List.length_cons, List.length_nil, Nat.reduceAdd, Nat.reduceSub, Array.replicate_succ, Array.replicate_zero, List.push_toArray, List.append_toArray, List.nil_append, List.cons_append]
  gi_wp2_with fail
  rw [← HW.out]
  refine ⟨trivial, ?_⟩
  refine (callsIn_wide.2 (mRightF _ _ _ _ _ _)).mono ?_
  rintro e w1 ⟨rfl, h1⟩
  rw [hfx]
  obtain ⟨d0, d1, d2, u0, u1, u2, ltm⟩ := my0.later h1
  gi_wp2_with fail
  refine ⟨trivial, ?_⟩
  refine (callsIn_wide.2 (mRightF _ _ _ _ _ _)).mono ?_
  rintro e w5 ⟨rfl, h2⟩
  rw [hfy]
  clear d0 d1 d2 u0 u1 u2 ltm
  have mx5 := mx0.later (h1.trans h2)
  have my5 := my0.later (h1.trans h2)
  have mz5 := mz0.later (h1.trans h2)
  have bw5 : Bl w w5 := b0.trans (h1.trans h2)
  obtain ⟨c0, c1, c2, f0, f1, f2, lt⟩ := id mx5
  obtain ⟨d0, d1, d2, u0, u1, u2, ltm⟩ := id my5
  gi_wp2_with fail
  refine ⟨trivial, ?_⟩
  refine (callsIn_wide.2 (side_any _ _)).mono ?_
  rintro e w9 ⟨rfl, hw9⟩
  have hw9' := hw9.symm
  subst hw9'
  clear hw9
  rw [hside]
  gi_wp2_with (gi_at_make; refine wpListIn_make_own _ rfl _ _ 25 rfl w5.heap.size 31 i0 (.agg #[.int .i64 0, .int .i64 0, .bool false]) 3 Try.underlying25 hi hz0 hz1 .i64 .i64 _ N rfl rfl (by simp) (by rw [hz2]; omega) (by unfold maxLen; omega) (by simp) ?_; intro w6 hown0 hgrow0; have mx6 := mbox_block mx5 (hgrow0.block _ mx5.lt nofun) hgrow0.size; clear c0 c1 c2 f0 f1 f2 d0 d1 d2 u0 u1 u2 lt ltm; obtain ⟨c0, c1, c2, f0, f1, f2, lt⟩ := mx6)
  have h56 : Bl w5 w6 := ⟨hgrow0.os, hgrow0.tape, hgrow0.output, hgrow0.size, fun k hk => hgrow0.block k hk nofun⟩
  have hs6 : w5.heap.size ≤ w6.heap.size := hgrow0.size
  obtain ⟨w6b, hw6b⟩ : ∃ w6b, w6b = w6.alloc (.cells #[.slice (some ⟨w5.heap.size, 0, none⟩) 0 N] 25) := ⟨_, rfl⟩
  have h6b : Bl w6 w6b := by rw [hw6b]; exact (Bl.refl _).alloc _
  have hs6b : w6b.heap.size = w6.heap.size + 1 := by rw [hw6b]; simp
  have bl6 : Boxed w6b w6.heap.size 25 (.slice (some ⟨w5.heap.size, 0, none⟩) 0 N) := by rw [hw6b]; exact Boxed.new w6 _ _
  have hown6 : w6b.ownsRow w5.heap.size 31 3 (.slice (some ⟨w5.heap.size, 0, none⟩) 0 N) 0 [] := own_blF hown0 h6b
  have hlt5 : w5.heap.size < w6b.heap.size := by have := (hown6.lt w5.heap.size rfl).2; exact this
  have HW6 := hideP hw6b
  clear hw6b hown0 hgrow0 c0 c1 c2 f0 f1 f2 lt
  rw [← HW6.out]
  refine ⟨trivial, ?_⟩
  refine (callsIn_wide.2 (mAllF _ _ _ _ _ f _ (HXm.out.later ((bw5.trans h56).trans h6b)))).mono ?_
  rintro e w7 ⟨B2, p2, cap5, rfl, hK7, h7⟩
  have HK7 := hideP hK7
  clear hK7
  have hs7 : w6.heap.size + 1 ≤ w7.heap.size := by have := h7.size; omega
  have b57 : Below w5.heap.size w5 w7 := (h56.trans h6b).trans h7
  have h57s := b57.size
  have bl7 := boxed_bl bl6 h7
  have own7 := own_blF hown6 h7
  clear bl6 hown6
  gi_wp2_with fail
  refine rangeV rfl (by omega) (gf := 50) (lb := #[.pointer (some ⟨B2, 0, none⟩)]) rfl trivial (enters_of Try.func50 (by kernel_rfl) rfl)
    (seqMF 7 B2 _ w7.heap.size R C p2 n cap5 f w7 (Nat.le_refl _) HK7.out) (fun x A B h => h.1) (fun h k => h.trans k) (span_b (Nat.le_refl _)) (fun _ => rfl)
    (fun pre U => (∃ v, Boxed U w6.heap.size 25 v ∧ U.ownsRow w5.heap.size 31 3 v (rowsL E (besideM C f g) pre).length ((rowsL E (besideM C f g) pre).flatMap cellsF) ∧ (∀ b, v.ownBlock = some b → b < w6b.heap.size ∨ w7.heap.size ≤ b)) ∧ (Below w5.heap.size w5 U ∧ w7.heap.size ≤ U.heap.size))
    (fun _ _ _ => False)
    (OwnFrom.and (Own.from (holdsRow_own w5.heap.size w6.heap.size 25 31 3 (fun pre => (rowsL E (besideM C f g) pre).length) (fun pre => (rowsL E (besideM C f g) pre).flatMap cellsF) (fun _ v => ∀ b, v.ownBlock = some b → b < w6b.heap.size ∨ w7.heap.size ≤ b)) _) (OwnFrom.and (ownFrom_below (Nat.le_refl _) b57.size) (own_size _ _)))
    (fun _ _ _ _ _ hs _ _ => hs)
    ⟨⟨_, bl7, own7, fun b hb => by cases hb; exact .inl hlt5⟩, b57, Nat.le_refl _⟩
    (fun a x a' U => x.1 < R ∧ Rw 3 cellsF U (rowV C x) (rowM C f x.1) ∧ a' = { tmps := ((((a.tmps.setIfInBounds 44 (.int .i64 x.1)).setIfInBounds 45 (rowV C x)).setIfInBounds 7 (.int .i64 x.1)).setIfInBounds 8 (rowV C x)), defers := [] })
    (fun x a' _ X Y row hs hg hr => ⟨hs.1, rw_own hs.2.1 hg (fun r e => (hr r e).2), hs.2.2⟩)
    ?assign ?body ?done ?stop
  case assign =>
    rintro l pre x W0 U K' _ ⟨hbU, hxR, hrow, hfr, hcc⟩ hI hK'
    have HK2 := hideP hK'
    have HI := hideP hI
    clear hK' hI
    gi_wp2
    exact HK2.out _ _ (KeepsFrom.refl _ _) (Span.refl _ _ _) HI.out ⟨hxR, hrow, rfl⟩
  case body =>
    rintro l pre x a' U hl' ⟨r, hr'⟩ ⟨⟨v, hv, hrow, hgv⟩, hbU, hsU⟩ ⟨hxR, hrx, rfl⟩ hlt
    simp only [List.setIfInBounds_toArray, List.set_cons_zero, List.set_cons_succ]
    have hrowE : rowM E (besideM C f g) x.1 = rowM C f x.1 ++ rowM D g x.1 := by rw [HE.out]; exact rowM_beside C D f g x.1
    have hlenL : (rowsL E (besideM C f g) pre).length + E ≤ 256 := by
      rw [rowsL_len]
      have h1 : (pre.length + 1) * E ≤ R * E := Nat.mul_le_mul_right _ hlt
      have := HN.out
      rw [Nat.succ_mul] at h1
      omega
    have HRE := hideP hrowE
    clear hrowE
    have hEsum : E = C + D := HE.out
    have my7 := my5.later (show Bl w5 U from hbU)
    rcases hrx with ⟨_, h0⟩ | ⟨bx, ox, cx, ex, hcx, hbx, hxx⟩
    · have := rowM_len C f x.1; rw [h0] at this; simp at this; omega
    obtain ⟨i, px, kx⟩ := x
    rw [rowM_len] at ex
    obtain ⟨hpx, hkx⟩ : px = some ⟨bx, ox, none⟩ ∧ kx = cx := by cases ex; exact ⟨rfl, rfl⟩
    subst hpx hkx
    clear ex
    have hcv := hv.cell
    have HV := hideP hv
    have HR := hideP hrow
    have HXX := hideP hxx
    clear hv hrow hxx
    have hw5U : w5.heap.size ≤ U.heap.size := hbU.size
    gi_wp2_with (gi_at_builtin; refine wpListIn_append_own_at _ rfl _ _ 25 rfl w5.heap.size 31 i0 (.agg #[.int .i64 0, .int .i64 0, .bool false]) 3 24 Try.underlying25 hi hz0 hz1 hz2 rfl (by decide) _ _ _ rfl HR.out ⟨bx, ox, none⟩ C kx ((rowM C f i).flatMap cellsF) rfl (by rw [flat_cellsF_len, rowM_len]) (flat_cells cellsF_len HXX.out) (flat_one oneF_cells _) (by unfold maxLen; omega) (by omega) (by omega) ?_; intro v' w8 hown' hgrow _ hat; obtain ⟨g', cap', rfl⟩ := ownsRow_some hown' (by omega); obtain ⟨hv5, hv6, hr6, hk6, hb6⟩ := boxed_appended HV.out (by decide) HR.out hw5U (by omega) hown' hgrow; have hc5 := hv5.cell; have hf5 := hv5.frozen)
    refine store_wp 25 (.tmp 6) (.tmp 48) rfl (Try.store1F w6.heap.size _ _ _ v w8 hc5 hf5) ?_
    gi_wp2_with fail
    have hg8 := hgrow.size
    have hG1 : ∀ b, (Value.slice (some ⟨g', 0, none⟩) ((rowsL E (besideM C f g) pre).length + C) cap').ownBlock = some b → b < w6b.heap.size ∨ w7.heap.size ≤ b := by
      intro b hb
      have hb' : g' = b := by cases hb; rfl
      subst hb'
      rcases hat with h | h
      · exact hgv _ h.symm
      · have : g' = U.heap.size := by simpa [Value.ownBlock] using h
        exact .inr (by omega)
    have sp1 : Span w6b.heap.size w7.heap.size U (w8.setCell ⟨w6.heap.size, 0, none⟩ (.slice (some ⟨g', 0, none⟩) ((rowsL E (besideM C f g) pre).length + C) cap')) := span_appended (Bl.refl U) (by omega) hgv hgrow (by omega)
    have hs8 : U.heap.size ≤ (w8.setCell ⟨w6.heap.size, 0, none⟩ (.slice (some ⟨g', 0, none⟩) ((rowsL E (besideM C f g) pre).length + C) cap')).heap.size := by simp; omega
    have hr7 : (w8.setCell ⟨w6.heap.size, 0, none⟩ (.slice (some ⟨g', 0, none⟩) ((rowsL E (besideM C f g) pre).length + C) cap')).ownsRow w5.heap.size 31 3 (.slice (some ⟨g', 0, none⟩) ((rowsL E (besideM C f g) pre).length + C) cap') (rowsL E (besideM C f g) pre ++ rowM C f i).length ((rowsL E (besideM C f g) pre ++ rowM C f i).flatMap cellsF) := by
      rw [List.length_append, rowM_len, List.flatMap_append]
      exact hr6
    have hlen7 : (rowsL E (besideM C f g) pre ++ rowM C f i).length ≤ 100000 := by rw [List.length_append, rowM_len]; omega
    generalize w8.setCell ⟨w6.heap.size, 0, none⟩ (.slice (some ⟨g', 0, none⟩) ((rowsL E (besideM C f g) pre).length + C) cap') = U1 at *
    generalize (Value.slice (some ⟨g', 0, none⟩) ((rowsL E (besideM C f g) pre).length + C) cap') = v7 at *
    clear hown' hgrow hat hv5 hc5 hf5 hr6
    have hb5U1 : Below w5.heap.size w5 U1 := hbU.trans hb6
    have hC := fun u (hu : Bl U1 u) => (mRowF R D q n2 cap2 g u (HYm.out.later ((bw5.trans hb5U1).trans hu)) i hxR).mono (R' := fun e w' => ∃ p' cap', e = .returned (.slice p' D cap') ∧ Rw 3 cellsF w' (.slice p' D cap') (rowM D g i) ∧ Bl u w') (fun _ _ ⟨p', cap', h1, h2, h3⟩ => ⟨p', cap', h1, h2.1, h3⟩)
    refine rowAppend (ops := _) rfl (by kernel_rfl) 49 6 16 _ (by simp [Act.put]) (by omega) ⟨rfl, rfl, rfl⟩ ⟨rfl, rfl⟩ ⟨rfl, rfl⟩ ⟨rfl, rfl, rfl⟩ ⟨rfl, rfl, rfl⟩ ⟨rfl, rfl, rfl⟩ ⟨by simp, by simp⟩ ⟨by simp, by simp⟩ (by simp)
      (mV R D q n2 cap2) (.int .i64 i) (fun act u K' hfr hu hk => load_wp 27 (.tmp 3) rfl (by rw [hfr 3 (by omega)]; exact Try.loadMF (w.heap.size + 1) _ _ _ _ _ u ((my5.later (show Bl w5 U1 from hb5U1)).later hu)) hk)
      (fun act u K' hfr hu hk => move_wp (.tmp 7) rfl (by rw [hfr 7 (by omega)]; exact hk))
      trivial (fun _ => by omega) (enters_of Try.func16 (by kernel_rfl) rfl) D (by omega) (by omega) (rowM D g i) (rowM_len _ _ _)
      (fun u hu => CallsIn.inRound l (callsIn_wide.2 (hC u hu)))
      w6.heap.size rfl v7 hv6 w5.heap.size (rowsL E (besideM C f g) pre ++ rowM C f i) hr7 hlen7 (by omega) ?_
    intro act u0 w9 g9 cap9 k1 k2 k3 k4
    have hvu := boxed_bl hv6 k1
    have hru := own_blF hr7 k1
    have hsu := k1.size
    have hu5 : w5.heap.size ≤ u0.heap.size := by omega
    obtain ⟨hv8, hv9, hr9, hk9, hb9⟩ := boxed_appended hvu (by decide) hru hu5 (by omega) k3 k2
    have hg9 := k2.size
    refine ⟨(hk6.from _).trans ((k1.keeps _).trans (hk9.from _)), sp1.trans (span_appended k1 (by omega) hG1 k2 (by omega)), ⟨_, hv9, ?_, ?_⟩, ?_, ?_⟩
    · rw [rowsL_snoc]
      show World.ownsRow _ _ _ _ _ (rowsL E (besideM C f g) pre ++ rowM E (besideM C f g) i).length ((rowsL E (besideM C f g) pre ++ rowM E (besideM C f g) i).flatMap cellsF)
      rw [show rowM E (besideM C f g) i = rowM C f i ++ rowM D g i from HRE.out, ← List.append_assoc]
      have el : (rowsL E (besideM C f g) pre ++ rowM C f i ++ rowM D g i).length = (rowsL E (besideM C f g) pre ++ rowM C f i).length + D := by rw [List.length_append, rowM_len D]
      rw [el, List.flatMap_append (xs := rowsL E (besideM C f g) pre ++ rowM C f i)]
      exact hr9
    · intro b hb
      have hb' : g9 = b := by cases hb; rfl
      subst hb'
      rcases k4 with h | h
      · exact hG1 _ h.symm
      · exact .inr (by omega)
    · exact hb5U1.trans ((k1.mono (by omega)).trans hb9)
    · simp; omega
  case done =>
    rintro Dm zs U hD hS ⟨⟨v, hv, hrow, _⟩, hb5, hs7'⟩ hKD
    have e := rowsL_all E (besideM C f g) zs hS
    rw [e] at hrow
    have RW := Rw.of_own cellsF_len hrow
    have FR : Fresh w5.heap.size v := fun b hb => (hrow.lt b hb).1
    obtain ⟨p', cap', hv', _, _⟩ := RW.cut
    rw [mk_len, ← HN.out] at hv'
    subst hv'
    have hcl := hv.cell
    have HRW := hideP RW
    have HFR := hideP FR
    have HKD := hideP hKD
    obtain ⟨c0, c1, c2, f0, f1, f2, lt⟩ := mx5.later (show Bl w5 U from hb5)
    obtain ⟨d0, d1, d2, u0, u1, u2, ltm⟩ := my5.later (show Bl w5 U from hb5)
    obtain ⟨x0, x1, x2, y0, y1, y2, ltz⟩ := mz5.later (show Bl w5 U from hb5)
    have hbw : Bl w U := bw5.trans hb5
    clear hrow RW FR hKD hv
    gi_wp2
    have hs4 := (h1.trans h2).size
    have hKD2 : ((((U.setCell ⟨w.heap.size + 1 + 1, 0, none⟩ (.int .i64 R)).setCell ⟨w.heap.size + 1 + 1, 1, none⟩ (.int .i64 E)).setCell ⟨w.heap.size + 1 + 1, 2, none⟩ (.slice p' N cap'))).heap[Dm]? = some (.deferred (some [])) :=
      (((KeepsOthers.setCell _ _ _).trans (KeepsOthers.setCell _ _ _)).trans (KeepsOthers.setCell _ _ _)).same Dm _ HKD.out rfl
    refine ⟨by simp, .inl ⟨_, _, rfl, run_takeDeferred hKD2, ?_⟩⟩
    have mzf := MBox.fill (⟨x0, x1, x2, y0, y1, y2, ltz⟩ : MBox U (w.heap.size + 1 + 1) 0 0 none 0 0) R E p' N cap'
    have mzg := mbox_block (w' := World.putObj _ Dm (.deferred none)) mzf (World.putObj_heap_other (by omega)) (by simp [World.putObj])
    have blf := Bl.put3 hbw (n := w.heap.size + 1 + 1) (by omega) (.int .i64 R) (.int .i64 E) (.slice p' N cap')
    have rwf := ((HRW.out.set (p := ⟨w.heap.size + 1 + 1, 0, none⟩) (.int .i64 R) (fun b hb => by have := HFR.out b hb; show w.heap.size + 1 + 1 + 1 ≤ b; omega)).set (p := ⟨w.heap.size + 1 + 1, 1, none⟩) (.int .i64 E) (fun b hb => by have := HFR.out b hb; show w.heap.size + 1 + 1 + 1 ≤ b; omega)).set (p := ⟨w.heap.size + 1 + 1, 2, none⟩) (.slice p' N cap') (fun b hb => by have := HFR.out b hb; show w.heap.size + 1 + 1 + 1 ≤ b; omega)
    generalize ((U.setCell ⟨w.heap.size + 1 + 1, 0, none⟩ (.int .i64 R)).setCell ⟨w.heap.size + 1 + 1, 1, none⟩ (.int .i64 E)).setCell ⟨w.heap.size + 1 + 1, 2, none⟩ (.slice p' N cap') = Z at *
    have rwg : Rw 3 cellsF (Z.putObj Dm (.deferred none)) (.slice p' N cap') (mk R E (besideM C f g)) := rw_own rwf (grownBy_putObj' _ Dm (.deferred none)) (fun r e => by cases e; exact ⟨_, hKD2, rfl⟩)
    have blg : Bl w (Z.putObj Dm (.deferred none)) := Below.trans blf (belowK_b (w := w) (Nat.le_refl _) Z Dm _ _ (by have := hbw.size; have := b57.size; omega) hKD2 rfl rfl)
    generalize Z.putObj Dm (.deferred none) = Y at *
    obtain ⟨a0, a1, a2, _, _, _, _⟩ := mzg
    refine ⟨.tuple #[mV R E p' N cap', .bool true], ?_, p', cap', rfl, ⟨⟨hR1, hR16, by have := HE.out; omega, hE16⟩, HN.out, rwg.q⟩, blg⟩
    simp [results, Try.results24, go_sem, a0, a1, a2]
  case stop =>
    rintro D' c pre U _ _ h _
    exact h.elim
end Go.Proofs.Ytokbmbgiimbkpaa

/- Sums, and what stands beside one another, of matrices of whole numbers, as fractions (layer 6's laws). -/
namespace Go.Proofs.Ytokbmbgiimbkpaa
open Go.RowKit
set_option linter.unusedSimpArgs false
set_option linter.unusedVariables false

theorem add6_any {A B : Int} (R C : Nat) (p q : Option Addr) (n cap cap2 : Nat) (a b : Nat → Nat → Int) (w : World) (hx : MxI w R C p n cap a) (hy : MxI w R C q n cap2 b) (ha : Sm2 A R C a) (hb : Sm2 B R C b) (hA : A ≤ 100000000) (hB : B ≤ 100000000) :
    Calls Try.prog 22 #[mV R C p n cap, mV R C q n cap2] w fun e w' => ∃ p' cap', e = .returned (.tuple #[mV R C p' n cap', .bool true]) ∧ MxI w' R C p' n cap' (fun i k => a i k + b i k) ∧ Bl w w' := by
  refine (mAdd_any R C p q n cap cap2 _ _ w hx hy).mono ?_
  rintro e w' ⟨p', cap', rfl, h, hb'⟩
  refine ⟨p', cap', rfl, h.congr (fun i k hi hk => ?_), hb'⟩
  have h1 := ha i k hi hk
  have h2 := hb i k hi hk
  exact add_it ⟨by omega, by omega⟩ ⟨by omega, by omega⟩ ⟨by omega, by omega⟩
theorem sub6_any {A B : Int} (R C : Nat) (p q : Option Addr) (n cap cap2 : Nat) (a b : Nat → Nat → Int) (w : World) (hx : MxI w R C p n cap a) (hy : MxI w R C q n cap2 b) (ha : Sm2 A R C a) (hb : Sm2 B R C b) (hA : A ≤ 100000000) (hB : B ≤ 100000000) :
    Calls Try.prog 23 #[mV R C p n cap, mV R C q n cap2] w fun e w' => ∃ p' cap', e = .returned (.tuple #[mV R C p' n cap', .bool true]) ∧ MxI w' R C p' n cap' (fun i k => a i k - b i k) ∧ Bl w w' := by
  refine (mSub_any R C p q n cap cap2 _ _ w hx hy).mono ?_
  rintro e w' ⟨p', cap', rfl, h, hb'⟩
  refine ⟨p', cap', rfl, h.congr (fun i k hi hk => ?_), hb'⟩
  have h1 := ha i k hi hk
  have h2 := hb i k hi hk
  exact sub_it ⟨by omega, by omega⟩ ⟨by omega, by omega⟩ ⟨by omega, by omega⟩
theorem beside6_any (R C D : Nat) (p : Option Addr) (n cap : Nat) (a : Nat → Nat → Int) (q : Option Addr) (n2 cap2 : Nat) (b : Nat → Nat → Int) (E N : Nat) (w : World) (hx : MxI w R C p n cap a) (hy : MxI w R D q n2 cap2 b) (hE : E = C + D) (hE16 : E ≤ 16) (hN : N = R * E) :
    Calls Try.prog 24 #[mV R C p n cap, mV R D q n2 cap2] w fun e w' => ∃ p' cap', e = .returned (.tuple #[mV R E p' N cap', .bool true]) ∧ MxI w' R E p' N cap' (besideM C a b) ∧ Bl w w' := by
  refine (mBesideF R C D p n cap _ q n2 cap2 _ E N w hx hy hE hE16 hN).mono ?_
  rintro e w' ⟨p', cap', rfl, h, hb'⟩
  refine ⟨p', cap', rfl, h.congr (fun i k hi hk => ?_), hb'⟩
  unfold besideM
  split <;> rfl
/-- A product with a sum is the sum of both products. -/
theorem mulI_add (M : Nat) (a b c : Nat → Nat → Int) (i k : Nat) : mulI M a (fun i k => b i k + c i k) i k = mulI M a b i k + mulI M a c i k := by
  induction M with
  | zero => simp [mulI_zero]
  | succ M ih => rw [mulI_succ, mulI_succ, mulI_succ, ih, Int.mul_add]; omega
/-- A product with two beside one another is both products beside one another. -/
theorem mulI_beside (M D : Nat) (a b c : Nat → Nat → Int) (i k : Nat) : mulI M a (besideM D b c) i k = besideM D (mulI M a b) (mulI M a c) i k := by
  unfold besideM
  by_cases h : k < D
  · rw [if_pos h]
    induction M with
    | zero => rfl
    | succ M ih => rw [mulI_succ, mulI_succ, ih, if_pos h]
  · rw [if_neg h]
    induction M with
    | zero => rfl
    | succ M ih => rw [mulI_succ, mulI_succ, ih, if_neg h]
theorem sm2_add {A B : Int} {R C : Nat} {a b : Nat → Nat → Int} (ha : Sm2 A R C a) (hb : Sm2 B R C b) : Sm2 (A + B) R C (fun i k => a i k + b i k) := fun i k hi hk => by
  have h1 := ha i k hi hk
  have h2 := hb i k hi hk
  show -(A + B) ≤ a i k + b i k ∧ a i k + b i k ≤ A + B
  exact ⟨by omega, by omega⟩
theorem sm2_beside {A : Int} {R C D : Nat} {a b : Nat → Nat → Int} (ha : Sm2 A R C a) (hb : Sm2 A R D b) : Sm2 A R (C + D) (besideM C a b) := fun i k hi hk => by
  unfold besideM
  by_cases h : k < C
  · rw [if_pos h]; exact ha i k hi h
  · rw [if_neg h]; exact hb i _ hi (by omega)
theorem sm2_mul {A B : Int} {R M D : Nat} {a b : Nat → Nat → Int} (hA : 0 ≤ A) (hB : 0 ≤ B) (ha : Sm2 A R M a) (hb : Sm2 B M D b) : Sm2 (A * B * M) R D (mulI M a b) := fun i k hi hk => mulI_bound hA hB ha hb hi hk M (Nat.le_refl _)
theorem sm2_le {A B : Int} {R C : Nat} {a : Nat → Nat → Int} (ha : Sm2 A R C a) (h : A ≤ B) : Sm2 B R C a := fun i k hi hk => by
  have h1 := ha i k hi hk
  exact ⟨by omega, by omega⟩
/-- Alike, of two matrices of the same whole numbers. -/
theorem alike6_any (R C : Nat) (p q : Option Addr) (n cap cap2 : Nat) (a b : Nat → Nat → Int) (w : World) (hx : MxI w R C p n cap a) (hy : MxI w R C q n cap2 b) (e : ∀ i k, i < R → k < C → a i k = b i k) :
    Calls Try.prog 30 #[mV R C p n cap, mV R C q n cap2] w fun e w' => e = .returned (.bool true) ∧ Bl w w' := by
  have hy' := hy.congr (g := fun i k => itF (a i k)) (fun i k hi hk => by rw [e i k hi hk])
  exact alike_any R C p q n cap cap2 _ w hx.2.2 hy'.2.2 (by rw [mk_len, hx.2.1]) (by rw [hx.2.1]; have := hx.1.lt; omega)
end Go.Proofs.Ytokbmbgiimbkpaa

/- The walk of MatRules. Written by genMl.py. -/
namespace Go.Proofs.Ytokbmbgiimbkpaa
open Go.RowKit
set_option linter.unusedSimpArgs false
set_option linter.unusedVariables false

theorem unit6_any (m n : Nat) (h1 : 1 ≤ m) (h2 : m ≤ 16) (hn : n = m * m) (w : World) :
    Calls Try.prog 29 #[.int .i64 m] w fun e w' => ∃ p' cap', e = .returned (.tuple #[mV m m p' n cap', .bool true]) ∧ MxI w' m m p' n cap' unitI ∧ Bl w w' := by
  refine (mUnitF m n h1 h2 hn w).mono ?_
  rintro e w' ⟨p', cap', rfl, h, hb⟩
  exact ⟨p', cap', rfl, h.congr (fun i k _ _ => whole_it (by unfold unitI; split <;> exact ⟨by omega, by omega⟩)), hb⟩
theorem sm2_unit (m : Nat) : Sm2 1 m m unitI := fun i k _ _ => by unfold unitI; split <;> omega
theorem turn6_any (R C : Nat) (p : Option Addr) (n cap : Nat) (a : Nat → Nat → Int) (w : World) (h : MxI w R C p n cap a) :
    Calls Try.prog 26 #[mV R C p n cap] w fun e w' => ∃ p' cap', e = .returned (mV C R p' n cap') ∧ (MxI w' C R p' n cap' (fun i k => a k i) ∧ Fresh w.heap.size (.slice p' n cap')) ∧ Bl w w' := by
  refine (mTurnF R C p n cap _ w h).mono ?_
  rintro e w' ⟨p', cap', rfl, ⟨h1, _, h2⟩, hb⟩
  exact ⟨p', cap', rfl, ⟨h1, h2⟩, hb⟩
theorem mul6_any' {A B : Int} (R M D : Nat) (p : Option Addr) (n cap : Nat) (a : Nat → Nat → Int) (q : Option Addr) (n2 cap2 : Nat) (b : Nat → Nat → Int) (N : Nat) (w : World) (hx : MxI w R M p n cap a) (hy : MxI w M D q n2 cap2 b) (hN : N = R * D) (ha : Sm2 A R M a) (hb : Sm2 B M D b) (hA : 0 ≤ A ∧ A ≤ 1073741824) (hB : 0 ≤ B ∧ B ≤ 1073741824) (hAB : A * B ≤ 67108864) :
    Calls Try.prog 20 #[mV R M p n cap, mV M D q n2 cap2] w fun e w' => ∃ p' cap', e = .returned (.tuple #[mV R D p' N cap', .bool true]) ∧ (MxI w' R D p' N cap' (mulI M a b) ∧ Rw 3 cellsF w' (.slice p' N cap') (mk R D fun i k => itF (mulI M a b i k)) ∧ Fresh w.heap.size (.slice p' N cap')) ∧ Bl w w' := by
  refine (mMulF R M D p n cap _ q n2 cap2 _ N w hx hy hN).mono ?_
  rintro e w' ⟨p', cap', rfl, ⟨h, hr, hf⟩, hb'⟩
  rw [mk_congr (fun i k hi hk => mulM_it ha hb hx.1.c2 hA hB hAB hi hk)] at hr
  exact ⟨p', cap', rfl, ⟨h.congr (fun i k hi hk => mulM_it ha hb hx.1.c2 hA hB hAB hi hk), hr, hf⟩, hb'⟩
set_option maxRecDepth 100000 in
set_option maxHeartbeats 8000000 in
theorem walk_MatRules (va : Value) (xa : List Int) (vb : Value) (xb : List Int) (vc : Value) (xc : List Int) (n : Int) (w : World) (ha : Rq 1 cI w va xa) (hb : Rq 1 cI w vb xb) (hc : Rq 1 cI w vc xc) :
    Calls Try.prog 7 #[va, vb, vc, .int .i64 n] w fun e w' => e = .returned (.bool true) ∧ Bl w w' := by
  have AW := hideP awake6_any
  have Fa := hideP (few6_any va xa w ha)
  obtain ⟨pa, ca, rfl, _, _⟩ := ha.cut
  obtain ⟨la, hla⟩ : ∃ l, l = xa.length := ⟨_, rfl⟩
  rw [← hla] at Fa ha ⊢
  have Ha := hideP ha
  have HLa := hideP hla
  clear ha hla
  have Fb := hideP (few6_any vb xb w hb)
  obtain ⟨pb, cb, rfl, _, _⟩ := hb.cut
  obtain ⟨lb, hlb⟩ : ∃ l, l = xb.length := ⟨_, rfl⟩
  rw [← hlb] at Fb hb ⊢
  have Hb := hideP hb
  have HLb := hideP hlb
  clear hb hlb
  have Fc := hideP (few6_any vc xc w hc)
  obtain ⟨pc, cc, rfl, _, _⟩ := hc.cut
  obtain ⟨lc, hlc⟩ : ∃ l, l = xc.length := ⟨_, rfl⟩
  rw [← hlc] at Fc hc ⊢
  have Hc := hideP hc
  have HLc := hideP hlc
  clear hc hlc
  go_enter Try.func7, Try.ntmps7
  go_wp2_with fail
  refine Fa.out.mono ?_
  rintro e w1 ⟨b1, rfl, hb1, hw1⟩
  have hw2 := hw1.symm
  subst hw2
  clear Fa hw1
  cases b1 with
  | false =>
    go_wp2_with fail
    refine (AW.out _).mono ?_
    rintro e w9 ⟨rfl, h9⟩
    go_wp2
    go_ret
    exact ⟨rfl, (Bl.refl _).trans h9⟩
  | true =>
    have Sa := hideP (hb1 rfl).2
    clear hb1
    go_wp2_with fail
    refine Fb.out.mono ?_
    rintro e w1 ⟨b1, rfl, hb1, hw1⟩
    have hw2 := hw1.symm
    subst hw2
    clear Fb hw1
    cases b1 with
    | false =>
      go_wp2_with fail
      refine (AW.out _).mono ?_
      rintro e w9 ⟨rfl, h9⟩
      go_wp2
      go_ret
      exact ⟨rfl, (Bl.refl _).trans h9⟩
    | true =>
      have Sb := hideP (hb1 rfl).2
      clear hb1
      go_wp2_with fail
      refine Fc.out.mono ?_
      rintro e w1 ⟨b1, rfl, hb1, hw1⟩
      have hw2 := hw1.symm
      subst hw2
      clear Fc hw1
      cases b1 with
      | false =>
        go_wp2_with fail
        refine (AW.out _).mono ?_
        rintro e w9 ⟨rfl, h9⟩
        go_wp2
        go_ret
        exact ⟨rfl, (Bl.refl _).trans h9⟩
      | true =>
        have Sc := hideP (hb1 rfl).2
        clear hb1
        by_cases hn1 : n < 1
        · skip
          go_wp2_with fail
          refine (AW.out _).mono ?_
          rintro e w9 ⟨rfl, h9⟩
          go_wp2
          go_ret
          exact ⟨rfl, (Bl.refl _).trans h9⟩
        by_cases hn2 : 4 < n
        · skip
          go_wp2_with fail
          refine (AW.out _).mono ?_
          rintro e w9 ⟨rfl, h9⟩
          go_wp2
          go_ret
          exact ⟨rfl, (Bl.refl _).trans h9⟩
        obtain ⟨m, rfl⟩ : ∃ m : Nat, n = (m : Int) := ⟨n.toNat, by omega⟩
        have Wa := hideP (fun u (hu : Bl w u) (hf : fitB m m la = true) => whole6_call m m pa la ca xa u (Ha.out.later hu) hf HLa.out.symm Sa.out)
        have Wb := hideP (fun u (hu : Bl w u) (hf : fitB m m lb = true) => whole6_call m m pb lb cb xb u (Hb.out.later hu) hf HLb.out.symm Sb.out)
        have Wc := hideP (fun u (hu : Bl w u) (hf : fitB m m lc = true) => whole6_call m m pc lc cc xc u (Hc.out.later hu) hf HLc.out.symm Sc.out)
        have WU := hideP (fun u => unit6_any m (m * m) (by omega) (by omega) rfl u)
        cases hfa : fitB m m la with
        | false =>
          cases hfb : fitB m m lb with
          | false =>
            cases hfc : fitB m m lc with
            | false =>
              have FU := hideP (fitB_dim (R := m) (C := m) (n := m * m) ⟨by omega, by omega, by omega, by omega⟩ rfl)
              generalize m * m = mm at *
              go_wp2_with fail
              refine (mWholeF_no _ _ _ _ _ _ hfa).mono ?_
              rintro e wa ⟨rfl, ha⟩
              have ma := MBox.new wa 0 0 none 0 0 27
              have hBa : Bl w (wa.alloc (.cells #[.int .i64 0, .int .i64 0, .slice none 0 0] 27)) := ha.alloc _
              go_wp2_with fail
              refine (mWholeF_no _ _ _ _ _ _ hfb).mono ?_
              rintro e wb ⟨rfl, hb⟩
              have mb := MBox.new wb 0 0 none 0 0 27
              have hBb : Bl w (wb.alloc (.cells #[.int .i64 0, .int .i64 0, .slice none 0 0] 27)) := (hBa.trans hb).alloc _
              go_wp2_with fail
              refine (mWholeF_no _ _ _ _ _ _ hfc).mono ?_
              rintro e wc ⟨rfl, hc⟩
              have mc := MBox.new wc 0 0 none 0 0 27
              have hBc : Bl w (wc.alloc (.cells #[.int .i64 0, .int .i64 0, .slice none 0 0] 27)) := (hBb.trans hc).alloc _
              go_wp2_with fail
              refine (WU.out _).mono ?_
              rintro e wu ⟨qu, ku, rfl, hxu, hu⟩
              clear hxu
              have mu := MBox.new wu m m qu mm ku 27
              go_wp2_with fail
              refine (mRightF _ _ _ _ _ _).mono ?_
              rintro e w8 ⟨rfl, h8⟩
              rw [FU.out]
              have hB : Bl w w8 := (((hBc.trans hu).alloc _).trans h8)
              go_wp2_with fail
              refine (AW.out _).mono ?_
              rintro e w9 ⟨rfl, h9⟩
              go_wp2
              go_ret
              exact ⟨rfl, hB.trans h9⟩
            | true =>
              have Wc := hideP (fun u hu => Wc.out u hu hfc)
              have FU := hideP (fitB_dim (R := m) (C := m) (n := m * m) ⟨by omega, by omega, by omega, by omega⟩ rfl)
              generalize m * m = mm at *
              go_wp2_with fail
              refine (mWholeF_no _ _ _ _ _ _ hfa).mono ?_
              rintro e wa ⟨rfl, ha⟩
              have ma := MBox.new wa 0 0 none 0 0 27
              have hBa : Bl w (wa.alloc (.cells #[.int .i64 0, .int .i64 0, .slice none 0 0] 27)) := ha.alloc _
              go_wp2_with fail
              refine (mWholeF_no _ _ _ _ _ _ hfb).mono ?_
              rintro e wb ⟨rfl, hb⟩
              have mb := MBox.new wb 0 0 none 0 0 27
              have hBb : Bl w (wb.alloc (.cells #[.int .i64 0, .int .i64 0, .slice none 0 0] 27)) := (hBa.trans hb).alloc _
              go_wp2_with fail
              refine (Wc.out _ hBb).mono ?_
              rintro e wc ⟨qc, kc, rfl, hx, hc⟩
              have HXc := hideP hx
              clear hx
              have mc := MBox.new wc m m qc lc kc 27
              have hBc : Bl w (wc.alloc (.cells #[.int .i64 m, .int .i64 m, .slice qc lc kc] 27)) := (hBb.trans hc).alloc _
              go_wp2_with fail
              refine (WU.out _).mono ?_
              rintro e wu ⟨qu, ku, rfl, hxu, hu⟩
              clear hxu
              have mu := MBox.new wu m m qu mm ku 27
              go_wp2_with fail
              refine (mRightF _ _ _ _ _ _).mono ?_
              rintro e w8 ⟨rfl, h8⟩
              rw [FU.out]
              have hB : Bl w w8 := (((hBc.trans hu).alloc _).trans h8)
              go_wp2_with fail
              refine (AW.out _).mono ?_
              rintro e w9 ⟨rfl, h9⟩
              go_wp2
              go_ret
              exact ⟨rfl, hB.trans h9⟩
          | true =>
            cases hfc : fitB m m lc with
            | false =>
              have Wb := hideP (fun u hu => Wb.out u hu hfb)
              have FU := hideP (fitB_dim (R := m) (C := m) (n := m * m) ⟨by omega, by omega, by omega, by omega⟩ rfl)
              generalize m * m = mm at *
              go_wp2_with fail
              refine (mWholeF_no _ _ _ _ _ _ hfa).mono ?_
              rintro e wa ⟨rfl, ha⟩
              have ma := MBox.new wa 0 0 none 0 0 27
              have hBa : Bl w (wa.alloc (.cells #[.int .i64 0, .int .i64 0, .slice none 0 0] 27)) := ha.alloc _
              go_wp2_with fail
              refine (Wb.out _ hBa).mono ?_
              rintro e wb ⟨qb, kb, rfl, hx, hb⟩
              have HXb := hideP hx
              clear hx
              have mb := MBox.new wb m m qb lb kb 27
              have hBb : Bl w (wb.alloc (.cells #[.int .i64 m, .int .i64 m, .slice qb lb kb] 27)) := (hBa.trans hb).alloc _
              go_wp2_with fail
              refine (mWholeF_no _ _ _ _ _ _ hfc).mono ?_
              rintro e wc ⟨rfl, hc⟩
              have mc := MBox.new wc 0 0 none 0 0 27
              have hBc : Bl w (wc.alloc (.cells #[.int .i64 0, .int .i64 0, .slice none 0 0] 27)) := (hBb.trans hc).alloc _
              go_wp2_with fail
              refine (WU.out _).mono ?_
              rintro e wu ⟨qu, ku, rfl, hxu, hu⟩
              clear hxu
              have mu := MBox.new wu m m qu mm ku 27
              go_wp2_with fail
              refine (mRightF _ _ _ _ _ _).mono ?_
              rintro e w8 ⟨rfl, h8⟩
              rw [FU.out]
              have hB : Bl w w8 := (((hBc.trans hu).alloc _).trans h8)
              go_wp2_with fail
              refine (AW.out _).mono ?_
              rintro e w9 ⟨rfl, h9⟩
              go_wp2
              go_ret
              exact ⟨rfl, hB.trans h9⟩
            | true =>
              have Wb := hideP (fun u hu => Wb.out u hu hfb)
              have Wc := hideP (fun u hu => Wc.out u hu hfc)
              have FU := hideP (fitB_dim (R := m) (C := m) (n := m * m) ⟨by omega, by omega, by omega, by omega⟩ rfl)
              generalize m * m = mm at *
              go_wp2_with fail
              refine (mWholeF_no _ _ _ _ _ _ hfa).mono ?_
              rintro e wa ⟨rfl, ha⟩
              have ma := MBox.new wa 0 0 none 0 0 27
              have hBa : Bl w (wa.alloc (.cells #[.int .i64 0, .int .i64 0, .slice none 0 0] 27)) := ha.alloc _
              go_wp2_with fail
              refine (Wb.out _ hBa).mono ?_
              rintro e wb ⟨qb, kb, rfl, hx, hb⟩
              have HXb := hideP hx
              clear hx
              have mb := MBox.new wb m m qb lb kb 27
              have hBb : Bl w (wb.alloc (.cells #[.int .i64 m, .int .i64 m, .slice qb lb kb] 27)) := (hBa.trans hb).alloc _
              go_wp2_with fail
              refine (Wc.out _ hBb).mono ?_
              rintro e wc ⟨qc, kc, rfl, hx, hc⟩
              have HXc := hideP hx
              clear hx
              have mc := MBox.new wc m m qc lc kc 27
              have hBc : Bl w (wc.alloc (.cells #[.int .i64 m, .int .i64 m, .slice qc lc kc] 27)) := (hBb.trans hc).alloc _
              go_wp2_with fail
              refine (WU.out _).mono ?_
              rintro e wu ⟨qu, ku, rfl, hxu, hu⟩
              clear hxu
              have mu := MBox.new wu m m qu mm ku 27
              go_wp2_with fail
              refine (mRightF _ _ _ _ _ _).mono ?_
              rintro e w8 ⟨rfl, h8⟩
              rw [FU.out]
              have hB : Bl w w8 := (((hBc.trans hu).alloc _).trans h8)
              go_wp2_with fail
              refine (AW.out _).mono ?_
              rintro e w9 ⟨rfl, h9⟩
              go_wp2
              go_ret
              exact ⟨rfl, hB.trans h9⟩
        | true =>
          cases hfb : fitB m m lb with
          | false =>
            cases hfc : fitB m m lc with
            | false =>
              have Wa := hideP (fun u hu => Wa.out u hu hfa)
              have FU := hideP (fitB_dim (R := m) (C := m) (n := m * m) ⟨by omega, by omega, by omega, by omega⟩ rfl)
              generalize m * m = mm at *
              go_wp2_with fail
              refine (Wa.out _ (Bl.refl _)).mono ?_
              rintro e wa ⟨qa, ka, rfl, hx, ha⟩
              have HXa := hideP hx
              clear hx
              have ma := MBox.new wa m m qa la ka 27
              have hBa : Bl w (wa.alloc (.cells #[.int .i64 m, .int .i64 m, .slice qa la ka] 27)) := ha.alloc _
              go_wp2_with fail
              refine (mWholeF_no _ _ _ _ _ _ hfb).mono ?_
              rintro e wb ⟨rfl, hb⟩
              have mb := MBox.new wb 0 0 none 0 0 27
              have hBb : Bl w (wb.alloc (.cells #[.int .i64 0, .int .i64 0, .slice none 0 0] 27)) := (hBa.trans hb).alloc _
              go_wp2_with fail
              refine (mWholeF_no _ _ _ _ _ _ hfc).mono ?_
              rintro e wc ⟨rfl, hc⟩
              have mc := MBox.new wc 0 0 none 0 0 27
              have hBc : Bl w (wc.alloc (.cells #[.int .i64 0, .int .i64 0, .slice none 0 0] 27)) := (hBb.trans hc).alloc _
              go_wp2_with fail
              refine (WU.out _).mono ?_
              rintro e wu ⟨qu, ku, rfl, hxu, hu⟩
              clear hxu
              have mu := MBox.new wu m m qu mm ku 27
              go_wp2_with fail
              refine (mRightF _ _ _ _ _ _).mono ?_
              rintro e w8 ⟨rfl, h8⟩
              rw [FU.out]
              have hB : Bl w w8 := (((hBc.trans hu).alloc _).trans h8)
              go_wp2_with fail
              refine (AW.out _).mono ?_
              rintro e w9 ⟨rfl, h9⟩
              go_wp2
              go_ret
              exact ⟨rfl, hB.trans h9⟩
            | true =>
              have Wa := hideP (fun u hu => Wa.out u hu hfa)
              have Wc := hideP (fun u hu => Wc.out u hu hfc)
              have FU := hideP (fitB_dim (R := m) (C := m) (n := m * m) ⟨by omega, by omega, by omega, by omega⟩ rfl)
              generalize m * m = mm at *
              go_wp2_with fail
              refine (Wa.out _ (Bl.refl _)).mono ?_
              rintro e wa ⟨qa, ka, rfl, hx, ha⟩
              have HXa := hideP hx
              clear hx
              have ma := MBox.new wa m m qa la ka 27
              have hBa : Bl w (wa.alloc (.cells #[.int .i64 m, .int .i64 m, .slice qa la ka] 27)) := ha.alloc _
              go_wp2_with fail
              refine (mWholeF_no _ _ _ _ _ _ hfb).mono ?_
              rintro e wb ⟨rfl, hb⟩
              have mb := MBox.new wb 0 0 none 0 0 27
              have hBb : Bl w (wb.alloc (.cells #[.int .i64 0, .int .i64 0, .slice none 0 0] 27)) := (hBa.trans hb).alloc _
              go_wp2_with fail
              refine (Wc.out _ hBb).mono ?_
              rintro e wc ⟨qc, kc, rfl, hx, hc⟩
              have HXc := hideP hx
              clear hx
              have mc := MBox.new wc m m qc lc kc 27
              have hBc : Bl w (wc.alloc (.cells #[.int .i64 m, .int .i64 m, .slice qc lc kc] 27)) := (hBb.trans hc).alloc _
              go_wp2_with fail
              refine (WU.out _).mono ?_
              rintro e wu ⟨qu, ku, rfl, hxu, hu⟩
              clear hxu
              have mu := MBox.new wu m m qu mm ku 27
              go_wp2_with fail
              refine (mRightF _ _ _ _ _ _).mono ?_
              rintro e w8 ⟨rfl, h8⟩
              rw [FU.out]
              have hB : Bl w w8 := (((hBc.trans hu).alloc _).trans h8)
              go_wp2_with fail
              refine (AW.out _).mono ?_
              rintro e w9 ⟨rfl, h9⟩
              go_wp2
              go_ret
              exact ⟨rfl, hB.trans h9⟩
          | true =>
            cases hfc : fitB m m lc with
            | false =>
              have Wa := hideP (fun u hu => Wa.out u hu hfa)
              have Wb := hideP (fun u hu => Wb.out u hu hfb)
              have FU := hideP (fitB_dim (R := m) (C := m) (n := m * m) ⟨by omega, by omega, by omega, by omega⟩ rfl)
              generalize m * m = mm at *
              go_wp2_with fail
              refine (Wa.out _ (Bl.refl _)).mono ?_
              rintro e wa ⟨qa, ka, rfl, hx, ha⟩
              have HXa := hideP hx
              clear hx
              have ma := MBox.new wa m m qa la ka 27
              have hBa : Bl w (wa.alloc (.cells #[.int .i64 m, .int .i64 m, .slice qa la ka] 27)) := ha.alloc _
              go_wp2_with fail
              refine (Wb.out _ hBa).mono ?_
              rintro e wb ⟨qb, kb, rfl, hx, hb⟩
              have HXb := hideP hx
              clear hx
              have mb := MBox.new wb m m qb lb kb 27
              have hBb : Bl w (wb.alloc (.cells #[.int .i64 m, .int .i64 m, .slice qb lb kb] 27)) := (hBa.trans hb).alloc _
              go_wp2_with fail
              refine (mWholeF_no _ _ _ _ _ _ hfc).mono ?_
              rintro e wc ⟨rfl, hc⟩
              have mc := MBox.new wc 0 0 none 0 0 27
              have hBc : Bl w (wc.alloc (.cells #[.int .i64 0, .int .i64 0, .slice none 0 0] 27)) := (hBb.trans hc).alloc _
              go_wp2_with fail
              refine (WU.out _).mono ?_
              rintro e wu ⟨qu, ku, rfl, hxu, hu⟩
              clear hxu
              have mu := MBox.new wu m m qu mm ku 27
              go_wp2_with fail
              refine (mRightF _ _ _ _ _ _).mono ?_
              rintro e w8 ⟨rfl, h8⟩
              rw [FU.out]
              have hB : Bl w w8 := (((hBc.trans hu).alloc _).trans h8)
              go_wp2_with fail
              refine (AW.out _).mono ?_
              rintro e w9 ⟨rfl, h9⟩
              go_wp2
              go_ret
              exact ⟨rfl, hB.trans h9⟩
            | true =>
              have Wa := hideP (fun u hu => Wa.out u hu hfa)
              have Wb := hideP (fun u hu => Wb.out u hu hfb)
              have Wc := hideP (fun u hu => Wc.out u hu hfc)
              obtain ⟨m1, m2, e1, e2, hd, hna⟩ := fitB_nat hfa
              obtain rfl : m = m1 := by omega
              have hla : la = m * m := by obtain ⟨R, C, e1, e2, _, h⟩ := fitB_nat hfa; rw [h, show R = m by omega, show C = m by omega]
              have hlb : lb = m * m := by obtain ⟨R, C, e1, e2, _, h⟩ := fitB_nat hfb; rw [h, show R = m by omega, show C = m by omega]
              have hlc : lc = m * m := by obtain ⟨R, C, e1, e2, _, h⟩ := fitB_nat hfc; rw [h, show R = m by omega, show C = m by omega]
              have sa : Sm2 100 m m (ofL m xa) := ofL_sml (by rw [← HLa.out]; exact hla) Sa.out
              have sb : Sm2 100 m m (ofL m xb) := ofL_sml (by rw [← HLb.out]; exact hlb) Sb.out
              have sc : Sm2 100 m m (ofL m xc) := ofL_sml (by rw [← HLc.out]; exact hlc) Sc.out
              have WU := hideP (fun u => unit6_any m la (by omega) (by omega) hla u)
              have hEQ := hideP hla
              have eb : la = lb := by omega
              have ec : la = lc := by omega
              clear hlb hlc
              subst eb
              subst ec
              have hm4 : m ≤ 4 := by omega
              have sxy := hideP (sm2_le (sm2_mul (by omega) (by omega) sa sb) (show 100 * 100 * (m : Int) ≤ 40000 by omega))
              have syz := hideP (sm2_le (sm2_mul (by omega) (by omega) sb sc) (show 100 * 100 * (m : Int) ≤ 40000 by omega))
              have SA := hideP sa
              have SB := hideP sb
              have SC := hideP sc
              clear sa sb sc hla hna hd e1 e2
              generalize ofL m xa = fa at *
              generalize ofL m xb = fb at *
              generalize ofL m xc = fc at *
              go_wp2_with fail
              refine (Wa.out _ (Bl.refl _)).mono ?_
              rintro e wa ⟨qa, ka, rfl, hx, ha⟩
              have HXa := hideP hx
              clear hx
              have ma := MBox.new wa m m qa la ka 27
              have hBa : Bl w (wa.alloc (.cells #[.int .i64 m, .int .i64 m, .slice qa la ka] 27)) := ha.alloc _
              go_wp2_with fail
              refine (Wb.out _ hBa).mono ?_
              rintro e wb ⟨qb, kb, rfl, hx, hb⟩
              have HXb := hideP hx
              clear hx
              have mb := MBox.new wb m m qb la kb 27
              have hBb : Bl w (wb.alloc (.cells #[.int .i64 m, .int .i64 m, .slice qb la kb] 27)) := (hBa.trans hb).alloc _
              go_wp2_with fail
              refine (Wc.out _ hBb).mono ?_
              rintro e wc ⟨qc, kc, rfl, hx, hc⟩
              have HXc := hideP hx
              clear hx
              have mc := MBox.new wc m m qc la kc 27
              have hBc : Bl w (wc.alloc (.cells #[.int .i64 m, .int .i64 m, .slice qc la kc] 27)) := (hBb.trans hc).alloc _
              go_wp2_with fail
              refine (WU.out _).mono ?_
              rintro e wu ⟨qu, ku, rfl, hxu, hu⟩
              have HXu := hideP hxu
              clear hxu
              have mu := MBox.new wu m m qu la ku 27
              have Ta_b : Bl (wa.alloc _) wb := hb
              have Tb_c : Bl (wb.alloc _) wc := hc
              have Tc_u : Bl (wc.alloc _) wu := hu
              have Uc_u : Bl wc wu := ((Bl.refl _).alloc _).trans Tc_u
              have Ub_c : Bl wb wc := ((Bl.refl _).alloc _).trans Tb_c
              have Tb_u := Tb_c.trans Uc_u
              have Ub_u : Bl wb wu := ((Bl.refl _).alloc _).trans Tb_u
              have Ta_u := Ta_b.trans Ub_u
              have Ua_u : Bl wa wu := ((Bl.refl _).alloc _).trans Ta_u
              have hBw : Bl w wu := (hBc.trans hu)
              have Ma := ma
              have Mb := mb
              have Mc := mc
              have Mu := mu
              clear ma mb mc mu
              obtain ⟨x00, x01, x02, _, _, _, xl0⟩ := Ma.later Ta_u
              obtain ⟨x10, x11, x12, _, _, _, xl1⟩ := Mb.later Tb_u
              go_wp2_with fail
              refine (mul6_any (A := 100) (B := 100) m m m qa la ka _ qb la kb _ la _ (HXa.out.later (Ua_u.alloc _)) (HXb.out.later (Ub_u.alloc _)) hEQ.out SA.out SB.out (by omega) (by omega) (by omega)).mono ?_
              rintro e wxy ⟨qxy, kxy, rfl, hx, hxy⟩
              have HXxy := hideP hx
              clear hx
              clear x00 x01 x02 xl0
              clear x10 x11 x12 xl1
              have Mxy := MBox.new wxy m m qxy la kxy 27
              have Bxy : Bl wu wxy := ((Bl.refl _).alloc _).trans hxy
              have Ta_xy := Ta_u.trans Bxy
              have Ua_xy : Bl wa wxy := ((Bl.refl _).alloc _).trans Ta_xy
              have Tb_xy := Tb_u.trans Bxy
              have Ub_xy : Bl wb wxy := ((Bl.refl _).alloc _).trans Tb_xy
              have Tc_xy := Tc_u.trans Bxy
              have Uc_xy : Bl wc wxy := ((Bl.refl _).alloc _).trans Tc_xy
              have Tu_xy : Bl (wu.alloc _) wxy := hxy
              have Uu_xy : Bl wu wxy := ((Bl.refl _).alloc _).trans Tu_xy
              obtain ⟨x00, x01, x02, _, _, _, xl0⟩ := Mb.later Tb_xy
              obtain ⟨x10, x11, x12, _, _, _, xl1⟩ := Mc.later Tc_xy
              go_wp2_with fail
              refine (mul6_any (A := 100) (B := 100) m m m qb la kb _ qc la kc _ la _ (HXb.out.later (Ub_xy.alloc _)) (HXc.out.later (Uc_xy.alloc _)) hEQ.out SB.out SC.out (by omega) (by omega) (by omega)).mono ?_
              rintro e wyz ⟨qyz, kyz, rfl, hx, hyz⟩
              have HXyz := hideP hx
              clear hx
              clear x00 x01 x02 xl0
              clear x10 x11 x12 xl1
              have Myz := MBox.new wyz m m qyz la kyz 27
              have Byz : Bl wxy wyz := ((Bl.refl _).alloc _).trans hyz
              have Ta_yz := Ta_xy.trans Byz
              have Ua_yz : Bl wa wyz := ((Bl.refl _).alloc _).trans Ta_yz
              have Tb_yz := Tb_xy.trans Byz
              have Ub_yz : Bl wb wyz := ((Bl.refl _).alloc _).trans Tb_yz
              have Tc_yz := Tc_xy.trans Byz
              have Uc_yz : Bl wc wyz := ((Bl.refl _).alloc _).trans Tc_yz
              have Tu_yz := Tu_xy.trans Byz
              have Uu_yz : Bl wu wyz := ((Bl.refl _).alloc _).trans Tu_yz
              have Txy_yz : Bl (wxy.alloc _) wyz := hyz
              have Uxy_yz : Bl wxy wyz := ((Bl.refl _).alloc _).trans Txy_yz
              obtain ⟨x00, x01, x02, _, _, _, xl0⟩ := Mxy.later Txy_yz
              obtain ⟨x10, x11, x12, _, _, _, xl1⟩ := Mc.later Tc_yz
              go_wp2_with fail
              refine (mul6_any (A := 40000) (B := 100) m m m qxy la kxy _ qc la kc _ la _ (HXxy.out.later (Uxy_yz.alloc _)) (HXc.out.later (Uc_yz.alloc _)) hEQ.out sxy.out SC.out (by omega) (by omega) (by omega)).mono ?_
              rintro e wle ⟨qle, kle, rfl, hx, hle⟩
              have HXle := hideP hx
              clear hx
              clear x00 x01 x02 xl0
              clear x10 x11 x12 xl1
              have Mle := MBox.new wle m m qle la kle 27
              have Ble : Bl wyz wle := ((Bl.refl _).alloc _).trans hle
              have Ta_le := Ta_yz.trans Ble
              have Ua_le : Bl wa wle := ((Bl.refl _).alloc _).trans Ta_le
              have Tb_le := Tb_yz.trans Ble
              have Ub_le : Bl wb wle := ((Bl.refl _).alloc _).trans Tb_le
              have Tc_le := Tc_yz.trans Ble
              have Uc_le : Bl wc wle := ((Bl.refl _).alloc _).trans Tc_le
              have Tu_le := Tu_yz.trans Ble
              have Uu_le : Bl wu wle := ((Bl.refl _).alloc _).trans Tu_le
              have Txy_le := Txy_yz.trans Ble
              have Uxy_le : Bl wxy wle := ((Bl.refl _).alloc _).trans Txy_le
              have Tyz_le : Bl (wyz.alloc _) wle := hle
              have Uyz_le : Bl wyz wle := ((Bl.refl _).alloc _).trans Tyz_le
              obtain ⟨x00, x01, x02, _, _, _, xl0⟩ := Ma.later Ta_le
              obtain ⟨x10, x11, x12, _, _, _, xl1⟩ := Myz.later Tyz_le
              go_wp2_with fail
              refine (mul6_any (A := 100) (B := 40000) m m m qa la ka _ qyz la kyz _ la _ (HXa.out.later (Ua_le.alloc _)) (HXyz.out.later (Uyz_le.alloc _)) hEQ.out SA.out syz.out (by omega) (by omega) (by omega)).mono ?_
              rintro e wri ⟨qri, kri, rfl, hx, hri⟩
              have HXri := hideP hx
              clear hx
              clear x00 x01 x02 xl0
              clear x10 x11 x12 xl1
              have Mri := MBox.new wri m m qri la kri 27
              have Bri : Bl wle wri := ((Bl.refl _).alloc _).trans hri
              have Ta_ri := Ta_le.trans Bri
              have Ua_ri : Bl wa wri := ((Bl.refl _).alloc _).trans Ta_ri
              have Tb_ri := Tb_le.trans Bri
              have Ub_ri : Bl wb wri := ((Bl.refl _).alloc _).trans Tb_ri
              have Tc_ri := Tc_le.trans Bri
              have Uc_ri : Bl wc wri := ((Bl.refl _).alloc _).trans Tc_ri
              have Tu_ri := Tu_le.trans Bri
              have Uu_ri : Bl wu wri := ((Bl.refl _).alloc _).trans Tu_ri
              have Txy_ri := Txy_le.trans Bri
              have Uxy_ri : Bl wxy wri := ((Bl.refl _).alloc _).trans Txy_ri
              have Tyz_ri := Tyz_le.trans Bri
              have Uyz_ri : Bl wyz wri := ((Bl.refl _).alloc _).trans Tyz_ri
              have Tle_ri : Bl (wle.alloc _) wri := hri
              have Ule_ri : Bl wle wri := ((Bl.refl _).alloc _).trans Tle_ri
              obtain ⟨x00, x01, x02, _, _, _, xl0⟩ := Ma.later Ta_ri
              obtain ⟨x10, x11, x12, _, _, _, xl1⟩ := Mu.later Tu_ri
              go_wp2_with fail
              refine (mul6_any (A := 100) (B := 1) m m m qa la ka _ qu la ku _ la _ (HXa.out.later (Ua_ri.alloc _)) (HXu.out.later (Uu_ri.alloc _)) hEQ.out SA.out (sm2_unit m) (by omega) (by omega) (by omega)).mono ?_
              rintro e wxu ⟨qxu, kxu, rfl, hx, hxu⟩
              have HXxu := hideP hx
              clear hx
              clear x00 x01 x02 xl0
              clear x10 x11 x12 xl1
              have Mxu := MBox.new wxu m m qxu la kxu 27
              have Bxu : Bl wri wxu := ((Bl.refl _).alloc _).trans hxu
              have Ta_xu := Ta_ri.trans Bxu
              have Ua_xu : Bl wa wxu := ((Bl.refl _).alloc _).trans Ta_xu
              have Tb_xu := Tb_ri.trans Bxu
              have Ub_xu : Bl wb wxu := ((Bl.refl _).alloc _).trans Tb_xu
              have Tc_xu := Tc_ri.trans Bxu
              have Uc_xu : Bl wc wxu := ((Bl.refl _).alloc _).trans Tc_xu
              have Tu_xu := Tu_ri.trans Bxu
              have Uu_xu : Bl wu wxu := ((Bl.refl _).alloc _).trans Tu_xu
              have Txy_xu := Txy_ri.trans Bxu
              have Uxy_xu : Bl wxy wxu := ((Bl.refl _).alloc _).trans Txy_xu
              have Tyz_xu := Tyz_ri.trans Bxu
              have Uyz_xu : Bl wyz wxu := ((Bl.refl _).alloc _).trans Tyz_xu
              have Tle_xu := Tle_ri.trans Bxu
              have Ule_xu : Bl wle wxu := ((Bl.refl _).alloc _).trans Tle_xu
              have Tri_xu : Bl (wri.alloc _) wxu := hxu
              have Uri_xu : Bl wri wxu := ((Bl.refl _).alloc _).trans Tri_xu
              obtain ⟨V, hV⟩ : ∃ V, V = wxu.alloc (.cells #[.int .i64 m, .int .i64 m, .slice qxu la kxu] 27) := ⟨_, rfl⟩
              have bV : Bl wxu V := by rw [hV]; exact (Bl.refl _).alloc _
              have Na := (Ma.later Ta_xu).later bV
              have Ya := hideP (HXa.out.later (Ua_xu.trans bV))
              have Nb := (Mb.later Tb_xu).later bV
              have Yb := hideP (HXb.out.later (Ub_xu.trans bV))
              have Nxy := (Mxy.later Txy_xu).later bV
              have Yxy := hideP (HXxy.out.later (Uxy_xu.trans bV))
              have Nle := (Mle.later Tle_xu).later bV
              have Yle := hideP (HXle.out.later (Ule_xu.trans bV))
              have Nri := (Mri.later Tri_xu).later bV
              have Yri := hideP (HXri.out.later (Uri_xu.trans bV))
              have Nxu : MBox V wxu.heap.size m m qxu la kxu := by rw [hV]; exact Mxu
              have Yxu := hideP (HXxu.out.later bV)
              have hBV : Bl w V := hBw.trans (Uu_xu.trans bV)
              go_wp2_with fail
              rw [← hV]
              have HV := hideP hV
              clear hV
              have KP := hideP (fun (u : World) (hu : Bl V u) => (show u.cell? ⟨wa.heap.size, 0, none⟩ = some (.int .i64 m) ∧ u.cell? ⟨wa.heap.size, 1, none⟩ = some (.int .i64 m) ∧ u.cell? ⟨wa.heap.size, 2, none⟩ = some (.slice qa la ka) ∧ u.cell? ⟨wb.heap.size, 0, none⟩ = some (.int .i64 m) ∧ u.cell? ⟨wb.heap.size, 1, none⟩ = some (.int .i64 m) ∧ u.cell? ⟨wb.heap.size, 2, none⟩ = some (.slice qb la kb) ∧ Bl V u from ⟨(Na.later hu).c0, (Na.later hu).c1, (Na.later hu).c2, (Nb.later hu).c0, (Nb.later hu).c1, (Nb.later hu).c2, hu⟩))
              have TA := hideP (fun (u : World) (hu : Bl V u) => turn6_any m m qa la ka fa u (Ya.out.later hu))
              have TB := hideP (fun (u : World) (hu : Bl V u) => turn6_any m m qb la kb fb u (Yb.out.later hu))
              have TM := hideP (fun p1 c1 p2 c2 (u : World) (h1 : MxI u m m p1 la c1 (fun i k => fb k i)) (h2 : MxI u m m p2 la c2 (fun i k => fa k i)) => mul6_any' (A := 100) (B := 100) m m m p1 la c1 _ p2 la c2 _ la u h1 h2 hEQ.out (fun i k hi hk => SB.out k i hk hi) (fun i k hi hk => SA.out k i hk hi) (by omega) (by omega) (by omega))
              go_region_held3 (fun w' => w'.cell? ⟨wa.heap.size, 0, none⟩ = some (.int .i64 m) ∧ w'.cell? ⟨wa.heap.size, 1, none⟩ = some (.int .i64 m) ∧ w'.cell? ⟨wa.heap.size, 2, none⟩ = some (.slice qa la ka) ∧ w'.cell? ⟨wb.heap.size, 0, none⟩ = some (.int .i64 m) ∧ w'.cell? ⟨wb.heap.size, 1, none⟩ = some (.int .i64 m) ∧ w'.cell? ⟨wb.heap.size, 2, none⟩ = some (.slice qb la kb) ∧ Bl V w') (exact KP.out _ (by repeat (first | exact Bl.refl _ | assumption | apply Bl.drew | apply Bl.alloc | (refine Bl.put3 ?_ (by omega) _ _ _) | (refine Bl.trans ?_ (by assumption)))))
                (first
                  | (go_at_call_of 26 (Value.slice qb la kb); refine (TB.out _ (by repeat (first | exact Bl.refl _ | assumption | apply Bl.drew | apply Bl.alloc | (refine Bl.put3 ?_ (by omega) _ _ _) | (refine Bl.trans ?_ (by assumption))))).mono ?_; rintro e v1 ⟨p1, c1, rfl, ⟨g1, _⟩, h1⟩; have G1 := hideP g1; clear g1; have s1 := (show Bl V v1 from (by repeat (first | exact Bl.refl _ | assumption | apply Bl.drew | apply Bl.alloc | (refine Bl.put3 ?_ (by omega) _ _ _) | (refine Bl.trans ?_ (by assumption))))).size; (try (have mz := (MBox.new V 0 0 none 0 0 _).later (((Bl.refl _).drew).trans h1); obtain ⟨z0, z1, z2, y0, y1, y2, zl⟩ := id mz)))
                  | (go_at_call_of 26 (Value.slice qa la ka); refine (TA.out _ (by repeat (first | exact Bl.refl _ | assumption | apply Bl.drew | apply Bl.alloc | (refine Bl.put3 ?_ (by omega) _ _ _) | (refine Bl.trans ?_ (by assumption))))).mono ?_; rintro e v2 ⟨p2, c2, rfl, ⟨g2, _⟩, h2⟩; have G2 := hideP g2; clear g2; have s2 := (show Bl V v2 from (by repeat (first | exact Bl.refl _ | assumption | apply Bl.drew | apply Bl.alloc | (refine Bl.put3 ?_ (by omega) _ _ _) | (refine Bl.trans ?_ (by assumption))))).size; first | (have mz := mz.later h2; obtain ⟨z0, z1, z2, y0, y1, y2, zl⟩ := id mz) | (have mz := (MBox.new _ 0 0 none 0 0 _).later h2; obtain ⟨z0, z1, z2, y0, y1, y2, zl⟩ := id mz) | skip)
                  | (go_at_call 20; refine (TM.out p1 c1 p2 c2 _ (G1.out.later (by repeat (first | exact Bl.refl _ | assumption | apply Bl.drew | apply Bl.alloc | (refine Bl.put3 ?_ (by omega) _ _ _) | (refine Bl.trans ?_ (by assumption))))) (G2.out.later (by repeat (first | exact Bl.refl _ | assumption | apply Bl.drew | apply Bl.alloc | (refine Bl.put3 ?_ (by omega) _ _ _) | (refine Bl.trans ?_ (by assumption)))))).mono ?_; rintro e v3 ⟨p3, c3, rfl, ⟨g3, r3, f3⟩, h3⟩; have G3 := hideP g3; have F3 := hideP (And.intro r3 f3); clear g3 r3 f3; have s3 := (show Bl V v3 from (by repeat (first | exact Bl.refl _ | assumption | apply Bl.drew | apply Bl.alloc | (refine Bl.put3 ?_ (by omega) _ _ _) | (refine Bl.trans ?_ (by assumption))))).size; first | (have mz := mz.later h3; obtain ⟨z0, z1, z2, y0, y1, y2, zl⟩ := id mz) | (have mz := (MBox.new _ 0 0 none 0 0 _).later h3; obtain ⟨z0, z1, z2, y0, y1, y2, zl⟩ := id mz) | skip))
              · obtain ⟨B, hBB⟩ : ∃ B, B = v3.heap.size := ⟨_, rfl⟩
                obtain ⟨U, hU⟩ : ∃ U, U = v3.alloc (.cells #[.int .i64 m, .int .i64 m, .slice p3 la c3] 27) := ⟨_, rfl⟩
                have Ntm : MBox U B m m p3 la c3 := by rw [hU, hBB]; exact MBox.new v3 _ _ _ _ _ _
                have Ytm : MxI U m m p3 la c3 (mulI m (fun i k => fb k i) (fun i k => fa k i)) := by rw [hU]; exact G3.out.later ((Bl.refl _).alloc _)
                rename_i hh
                have bU : Bl V U := by rw [hU]; exact hh.2.2.2.2.2.2
                clear hh
                have YTM := hideP Ytm
                clear Ytm
                rw [← hU, ← hBB]
                clear hU hBB G1 G2 G3 F3 TA TB TM KP
                have Nle := Nle.later bU
                have Nri := Nri.later bU
                have Nxu := Nxu.later bU
                have Na := Na.later bU
                have Nxy := Nxy.later bU
                have KQ := hideP (fun (u : World) (hu : Bl U u) => (show u.cell? ⟨wle.heap.size, 0, none⟩ = some (.int .i64 m) ∧ u.cell? ⟨wle.heap.size, 1, none⟩ = some (.int .i64 m) ∧ u.cell? ⟨wle.heap.size, 2, none⟩ = some (.slice qle la kle) ∧ u.cell? ⟨wri.heap.size, 0, none⟩ = some (.int .i64 m) ∧ u.cell? ⟨wri.heap.size, 1, none⟩ = some (.int .i64 m) ∧ u.cell? ⟨wri.heap.size, 2, none⟩ = some (.slice qri la kri) ∧ u.cell? ⟨wxu.heap.size, 0, none⟩ = some (.int .i64 m) ∧ u.cell? ⟨wxu.heap.size, 1, none⟩ = some (.int .i64 m) ∧ u.cell? ⟨wxu.heap.size, 2, none⟩ = some (.slice qxu la kxu) ∧ u.cell? ⟨wa.heap.size, 0, none⟩ = some (.int .i64 m) ∧ u.cell? ⟨wa.heap.size, 1, none⟩ = some (.int .i64 m) ∧ u.cell? ⟨wa.heap.size, 2, none⟩ = some (.slice qa la ka) ∧ u.cell? ⟨wxy.heap.size, 0, none⟩ = some (.int .i64 m) ∧ u.cell? ⟨wxy.heap.size, 1, none⟩ = some (.int .i64 m) ∧ u.cell? ⟨wxy.heap.size, 2, none⟩ = some (.slice qxy la kxy) ∧ u.cell? ⟨B, 0, none⟩ = some (.int .i64 m) ∧ u.cell? ⟨B, 1, none⟩ = some (.int .i64 m) ∧ u.cell? ⟨B, 2, none⟩ = some (.slice p3 la c3) ∧ Bl U u from ⟨(Nle.later hu).c0, (Nle.later hu).c1, (Nle.later hu).c2, (Nri.later hu).c0, (Nri.later hu).c1, (Nri.later hu).c2, (Nxu.later hu).c0, (Nxu.later hu).c1, (Nxu.later hu).c2, (Na.later hu).c0, (Na.later hu).c1, (Na.later hu).c2, (Nxy.later hu).c0, (Nxy.later hu).c1, (Nxy.later hu).c2, (Ntm.later hu).c0, (Ntm.later hu).c1, (Ntm.later hu).c2, hu⟩))
                have A1 := hideP (fun (u : World) (hu : Bl U u) => alike6_any m m qle qri la kle kri _ _ u (Yle.out.later (bU.trans hu)) (Yri.out.later (bU.trans hu)) (fun i k _ _ => mulI_mul_r m fa fb fc m i k))
                have A2 := hideP (fun (u : World) (hu : Bl U u) => alike6_any m m qxu qa la kxu ka _ _ u (Yxu.out.later (bU.trans hu)) (Ya.out.later (bU.trans hu)) (fun i k _ hk => by rw [mulI_unit_r, if_pos hk]))
                have T1 := hideP (fun (u : World) (hu : Bl U u) => turn6_any m m qa la ka fa u (Ya.out.later (bU.trans hu)))
                have T2 := hideP (fun p c (u : World) (h : MxI u m m p la c (fun i k => fa k i)) => turn6_any m m p la c _ u h)
                have A3 := hideP (fun p c (u : World) (hu : Bl U u) (h : MxI u m m p la c (fun i k => fa i k)) => alike6_any m m p qa la c ka _ _ u h (Ya.out.later (bU.trans hu)) (fun _ _ _ _ => rfl))
                have T3 := hideP (fun (u : World) (hu : Bl U u) => turn6_any m m qxy la kxy _ u (Yxy.out.later (bU.trans hu)))
                have A4 := hideP (fun p c (u : World) (hu : Bl U u) (h : MxI u m m p la c (fun i k => mulI m fa fb k i)) => alike6_any m m p p3 la c c3 _ _ u h (YTM.out.later hu) (fun i k _ _ => (mulI_turn m fa fb i k).symm))
                clear Yle Yri Yxu Ya Yxy YTM
                have hBU : Bl w U := hBV.trans bU
                go_wp2_with fail
                go_region_held3 (fun w' => w'.cell? ⟨wle.heap.size, 0, none⟩ = some (.int .i64 m) ∧ w'.cell? ⟨wle.heap.size, 1, none⟩ = some (.int .i64 m) ∧ w'.cell? ⟨wle.heap.size, 2, none⟩ = some (.slice qle la kle) ∧ w'.cell? ⟨wri.heap.size, 0, none⟩ = some (.int .i64 m) ∧ w'.cell? ⟨wri.heap.size, 1, none⟩ = some (.int .i64 m) ∧ w'.cell? ⟨wri.heap.size, 2, none⟩ = some (.slice qri la kri) ∧ w'.cell? ⟨wxu.heap.size, 0, none⟩ = some (.int .i64 m) ∧ w'.cell? ⟨wxu.heap.size, 1, none⟩ = some (.int .i64 m) ∧ w'.cell? ⟨wxu.heap.size, 2, none⟩ = some (.slice qxu la kxu) ∧ w'.cell? ⟨wa.heap.size, 0, none⟩ = some (.int .i64 m) ∧ w'.cell? ⟨wa.heap.size, 1, none⟩ = some (.int .i64 m) ∧ w'.cell? ⟨wa.heap.size, 2, none⟩ = some (.slice qa la ka) ∧ w'.cell? ⟨wxy.heap.size, 0, none⟩ = some (.int .i64 m) ∧ w'.cell? ⟨wxy.heap.size, 1, none⟩ = some (.int .i64 m) ∧ w'.cell? ⟨wxy.heap.size, 2, none⟩ = some (.slice qxy la kxy) ∧ w'.cell? ⟨B, 0, none⟩ = some (.int .i64 m) ∧ w'.cell? ⟨B, 1, none⟩ = some (.int .i64 m) ∧ w'.cell? ⟨B, 2, none⟩ = some (.slice p3 la c3) ∧ Bl U w') (exact KQ.out _ (by repeat (first | exact Bl.refl _ | assumption | apply Bl.drew | apply Bl.alloc | (refine Bl.put3 ?_ (by omega) _ _ _) | (refine Bl.trans ?_ (by assumption)))))
                  (first
                    | (go_at_call_of 30 (Value.slice qle la kle); refine (A1.out _ (by repeat (first | exact Bl.refl _ | assumption | apply Bl.drew | apply Bl.alloc | (refine Bl.put3 ?_ (by omega) _ _ _) | (refine Bl.trans ?_ (by assumption))))).mono ?_; rintro e v4 ⟨rfl, h4⟩)
                    | (go_at_call_of 30 (Value.slice qxu la kxu); refine (A2.out _ (by repeat (first | exact Bl.refl _ | assumption | apply Bl.drew | apply Bl.alloc | (refine Bl.put3 ?_ (by omega) _ _ _) | (refine Bl.trans ?_ (by assumption))))).mono ?_; rintro e v5 ⟨rfl, h5⟩)
                    | (go_at_call_of 26 (Value.slice qa la ka); refine (T1.out _ (by repeat (first | exact Bl.refl _ | assumption | apply Bl.drew | apply Bl.alloc | (refine Bl.put3 ?_ (by omega) _ _ _) | (refine Bl.trans ?_ (by assumption))))).mono ?_; rintro e v6 ⟨p6, c6, rfl, ⟨g6, _⟩, h6⟩; have G6 := hideP g6; clear g6)
                    | (go_at_call_of 26 (Value.slice qxy la kxy); refine (T3.out _ (by repeat (first | exact Bl.refl _ | assumption | apply Bl.drew | apply Bl.alloc | (refine Bl.put3 ?_ (by omega) _ _ _) | (refine Bl.trans ?_ (by assumption))))).mono ?_; rintro e v9 ⟨p9, c9, rfl, ⟨g9, _⟩, h9⟩; have G9 := hideP g9; clear g9)
                    | (go_at_call_of 26 (mV (m : Int) (m : Int) p6 la c6); refine (T2.out p6 c6 _ (G6.out.later (by repeat (first | exact Bl.refl _ | assumption | apply Bl.drew | apply Bl.alloc | (refine Bl.put3 ?_ (by omega) _ _ _) | (refine Bl.trans ?_ (by assumption)))))).mono ?_; rintro e v7 ⟨p7, c7, rfl, ⟨g7, _⟩, h7⟩; have G7 := hideP g7; clear g7)
                    | (go_at_call_of 30 (mV (m : Int) (m : Int) p7 la c7); refine (A3.out p7 c7 _ (by repeat (first | exact Bl.refl _ | assumption | apply Bl.drew | apply Bl.alloc | (refine Bl.put3 ?_ (by omega) _ _ _) | (refine Bl.trans ?_ (by assumption)))) (G7.out.later (by repeat (first | exact Bl.refl _ | assumption | apply Bl.drew | apply Bl.alloc | (refine Bl.put3 ?_ (by omega) _ _ _) | (refine Bl.trans ?_ (by assumption)))))).mono ?_; rintro e v8 ⟨rfl, h8⟩)
                    | (go_at_call_of 30 (mV (m : Int) (m : Int) p9 la c9); refine (A4.out p9 c9 _ (by repeat (first | exact Bl.refl _ | assumption | apply Bl.drew | apply Bl.alloc | (refine Bl.put3 ?_ (by omega) _ _ _) | (refine Bl.trans ?_ (by assumption)))) (G9.out.later (by repeat (first | exact Bl.refl _ | assumption | apply Bl.drew | apply Bl.alloc | (refine Bl.put3 ?_ (by omega) _ _ _) | (refine Bl.trans ?_ (by assumption)))))).mono ?_; rintro e va ⟨rfl, ha⟩)
                    | (go_at_call 11; refine (AW.out _).mono ?_; rintro e vb ⟨rfl, hb9⟩))
                rename_i hh
                have hBU2 := hh.2.2.2.2.2.2.2.2.2.2.2.2.2.2.2.2.2.2
                go_wp2
                go_ret
                exact ⟨rfl, hBU.trans hBU2⟩
              · obtain ⟨B, hBB⟩ : ∃ B, B = v2.heap.size := ⟨_, rfl⟩
                obtain ⟨U, hU⟩ : ∃ U, U = ((v3.setCell ⟨B, 0, none⟩ (.int .i64 m)).setCell ⟨B, 1, none⟩ (.int .i64 m)).setCell ⟨B, 2, none⟩ (.slice p3 la c3) := ⟨_, rfl⟩
                have Ntm : MBox U B m m p3 la c3 := by rw [hU, hBB]; exact mz.fill _ _ _ _ _
                have f4 : Fresh (B + 1) (.slice p3 la c3) := fun g hg => by have h4 := F3.out.2 g hg; have h5 := zl; have h6 := h1.size; have h7 := h2.size; have h8 := h3.size; simp only [World.size_alloc, World.drew] at h4 h6 h7 h8; omega
                have Ytm : MxI U m m p3 la c3 (mulI m (fun i k => fb k i) (fun i k => fa k i)) := by rw [hU]; exact ⟨G3.out.1, G3.out.2.1, (((F3.out.1.set (p := ⟨B, 0, none⟩) _ f4).set (p := ⟨B, 1, none⟩) _ f4).set (p := ⟨B, 2, none⟩) _ f4).q⟩
                rename_i hh
                have bU : Bl V U := by rw [hU, hBB]; exact hh.2.2.2.2.2.2
                clear hh
                have YTM := hideP Ytm
                clear Ytm
                rw [← hBB, ← hU]
                clear hU hBB G1 G2 G3 F3 TA TB TM KP mz z0 z1 z2 y0 y1 y2 zl f4
                have Nle := Nle.later bU
                have Nri := Nri.later bU
                have Nxu := Nxu.later bU
                have Na := Na.later bU
                have Nxy := Nxy.later bU
                have KQ := hideP (fun (u : World) (hu : Bl U u) => (show u.cell? ⟨wle.heap.size, 0, none⟩ = some (.int .i64 m) ∧ u.cell? ⟨wle.heap.size, 1, none⟩ = some (.int .i64 m) ∧ u.cell? ⟨wle.heap.size, 2, none⟩ = some (.slice qle la kle) ∧ u.cell? ⟨wri.heap.size, 0, none⟩ = some (.int .i64 m) ∧ u.cell? ⟨wri.heap.size, 1, none⟩ = some (.int .i64 m) ∧ u.cell? ⟨wri.heap.size, 2, none⟩ = some (.slice qri la kri) ∧ u.cell? ⟨wxu.heap.size, 0, none⟩ = some (.int .i64 m) ∧ u.cell? ⟨wxu.heap.size, 1, none⟩ = some (.int .i64 m) ∧ u.cell? ⟨wxu.heap.size, 2, none⟩ = some (.slice qxu la kxu) ∧ u.cell? ⟨wa.heap.size, 0, none⟩ = some (.int .i64 m) ∧ u.cell? ⟨wa.heap.size, 1, none⟩ = some (.int .i64 m) ∧ u.cell? ⟨wa.heap.size, 2, none⟩ = some (.slice qa la ka) ∧ u.cell? ⟨wxy.heap.size, 0, none⟩ = some (.int .i64 m) ∧ u.cell? ⟨wxy.heap.size, 1, none⟩ = some (.int .i64 m) ∧ u.cell? ⟨wxy.heap.size, 2, none⟩ = some (.slice qxy la kxy) ∧ u.cell? ⟨B, 0, none⟩ = some (.int .i64 m) ∧ u.cell? ⟨B, 1, none⟩ = some (.int .i64 m) ∧ u.cell? ⟨B, 2, none⟩ = some (.slice p3 la c3) ∧ Bl U u from ⟨(Nle.later hu).c0, (Nle.later hu).c1, (Nle.later hu).c2, (Nri.later hu).c0, (Nri.later hu).c1, (Nri.later hu).c2, (Nxu.later hu).c0, (Nxu.later hu).c1, (Nxu.later hu).c2, (Na.later hu).c0, (Na.later hu).c1, (Na.later hu).c2, (Nxy.later hu).c0, (Nxy.later hu).c1, (Nxy.later hu).c2, (Ntm.later hu).c0, (Ntm.later hu).c1, (Ntm.later hu).c2, hu⟩))
                have A1 := hideP (fun (u : World) (hu : Bl U u) => alike6_any m m qle qri la kle kri _ _ u (Yle.out.later (bU.trans hu)) (Yri.out.later (bU.trans hu)) (fun i k _ _ => mulI_mul_r m fa fb fc m i k))
                have A2 := hideP (fun (u : World) (hu : Bl U u) => alike6_any m m qxu qa la kxu ka _ _ u (Yxu.out.later (bU.trans hu)) (Ya.out.later (bU.trans hu)) (fun i k _ hk => by rw [mulI_unit_r, if_pos hk]))
                have T1 := hideP (fun (u : World) (hu : Bl U u) => turn6_any m m qa la ka fa u (Ya.out.later (bU.trans hu)))
                have T2 := hideP (fun p c (u : World) (h : MxI u m m p la c (fun i k => fa k i)) => turn6_any m m p la c _ u h)
                have A3 := hideP (fun p c (u : World) (hu : Bl U u) (h : MxI u m m p la c (fun i k => fa i k)) => alike6_any m m p qa la c ka _ _ u h (Ya.out.later (bU.trans hu)) (fun _ _ _ _ => rfl))
                have T3 := hideP (fun (u : World) (hu : Bl U u) => turn6_any m m qxy la kxy _ u (Yxy.out.later (bU.trans hu)))
                have A4 := hideP (fun p c (u : World) (hu : Bl U u) (h : MxI u m m p la c (fun i k => mulI m fa fb k i)) => alike6_any m m p p3 la c c3 _ _ u h (YTM.out.later hu) (fun i k _ _ => (mulI_turn m fa fb i k).symm))
                clear Yle Yri Yxu Ya Yxy YTM
                have hBU : Bl w U := hBV.trans bU
                go_wp2_with fail
                go_region_held3 (fun w' => w'.cell? ⟨wle.heap.size, 0, none⟩ = some (.int .i64 m) ∧ w'.cell? ⟨wle.heap.size, 1, none⟩ = some (.int .i64 m) ∧ w'.cell? ⟨wle.heap.size, 2, none⟩ = some (.slice qle la kle) ∧ w'.cell? ⟨wri.heap.size, 0, none⟩ = some (.int .i64 m) ∧ w'.cell? ⟨wri.heap.size, 1, none⟩ = some (.int .i64 m) ∧ w'.cell? ⟨wri.heap.size, 2, none⟩ = some (.slice qri la kri) ∧ w'.cell? ⟨wxu.heap.size, 0, none⟩ = some (.int .i64 m) ∧ w'.cell? ⟨wxu.heap.size, 1, none⟩ = some (.int .i64 m) ∧ w'.cell? ⟨wxu.heap.size, 2, none⟩ = some (.slice qxu la kxu) ∧ w'.cell? ⟨wa.heap.size, 0, none⟩ = some (.int .i64 m) ∧ w'.cell? ⟨wa.heap.size, 1, none⟩ = some (.int .i64 m) ∧ w'.cell? ⟨wa.heap.size, 2, none⟩ = some (.slice qa la ka) ∧ w'.cell? ⟨wxy.heap.size, 0, none⟩ = some (.int .i64 m) ∧ w'.cell? ⟨wxy.heap.size, 1, none⟩ = some (.int .i64 m) ∧ w'.cell? ⟨wxy.heap.size, 2, none⟩ = some (.slice qxy la kxy) ∧ w'.cell? ⟨B, 0, none⟩ = some (.int .i64 m) ∧ w'.cell? ⟨B, 1, none⟩ = some (.int .i64 m) ∧ w'.cell? ⟨B, 2, none⟩ = some (.slice p3 la c3) ∧ Bl U w') (exact KQ.out _ (by repeat (first | exact Bl.refl _ | assumption | apply Bl.drew | apply Bl.alloc | (refine Bl.put3 ?_ (by omega) _ _ _) | (refine Bl.trans ?_ (by assumption)))))
                  (first
                    | (go_at_call_of 30 (Value.slice qle la kle); refine (A1.out _ (by repeat (first | exact Bl.refl _ | assumption | apply Bl.drew | apply Bl.alloc | (refine Bl.put3 ?_ (by omega) _ _ _) | (refine Bl.trans ?_ (by assumption))))).mono ?_; rintro e v4 ⟨rfl, h4⟩)
                    | (go_at_call_of 30 (Value.slice qxu la kxu); refine (A2.out _ (by repeat (first | exact Bl.refl _ | assumption | apply Bl.drew | apply Bl.alloc | (refine Bl.put3 ?_ (by omega) _ _ _) | (refine Bl.trans ?_ (by assumption))))).mono ?_; rintro e v5 ⟨rfl, h5⟩)
                    | (go_at_call_of 26 (Value.slice qa la ka); refine (T1.out _ (by repeat (first | exact Bl.refl _ | assumption | apply Bl.drew | apply Bl.alloc | (refine Bl.put3 ?_ (by omega) _ _ _) | (refine Bl.trans ?_ (by assumption))))).mono ?_; rintro e v6 ⟨p6, c6, rfl, ⟨g6, _⟩, h6⟩; have G6 := hideP g6; clear g6)
                    | (go_at_call_of 26 (Value.slice qxy la kxy); refine (T3.out _ (by repeat (first | exact Bl.refl _ | assumption | apply Bl.drew | apply Bl.alloc | (refine Bl.put3 ?_ (by omega) _ _ _) | (refine Bl.trans ?_ (by assumption))))).mono ?_; rintro e v9 ⟨p9, c9, rfl, ⟨g9, _⟩, h9⟩; have G9 := hideP g9; clear g9)
                    | (go_at_call_of 26 (mV (m : Int) (m : Int) p6 la c6); refine (T2.out p6 c6 _ (G6.out.later (by repeat (first | exact Bl.refl _ | assumption | apply Bl.drew | apply Bl.alloc | (refine Bl.put3 ?_ (by omega) _ _ _) | (refine Bl.trans ?_ (by assumption)))))).mono ?_; rintro e v7 ⟨p7, c7, rfl, ⟨g7, _⟩, h7⟩; have G7 := hideP g7; clear g7)
                    | (go_at_call_of 30 (mV (m : Int) (m : Int) p7 la c7); refine (A3.out p7 c7 _ (by repeat (first | exact Bl.refl _ | assumption | apply Bl.drew | apply Bl.alloc | (refine Bl.put3 ?_ (by omega) _ _ _) | (refine Bl.trans ?_ (by assumption)))) (G7.out.later (by repeat (first | exact Bl.refl _ | assumption | apply Bl.drew | apply Bl.alloc | (refine Bl.put3 ?_ (by omega) _ _ _) | (refine Bl.trans ?_ (by assumption)))))).mono ?_; rintro e v8 ⟨rfl, h8⟩)
                    | (go_at_call_of 30 (mV (m : Int) (m : Int) p9 la c9); refine (A4.out p9 c9 _ (by repeat (first | exact Bl.refl _ | assumption | apply Bl.drew | apply Bl.alloc | (refine Bl.put3 ?_ (by omega) _ _ _) | (refine Bl.trans ?_ (by assumption)))) (G9.out.later (by repeat (first | exact Bl.refl _ | assumption | apply Bl.drew | apply Bl.alloc | (refine Bl.put3 ?_ (by omega) _ _ _) | (refine Bl.trans ?_ (by assumption)))))).mono ?_; rintro e va ⟨rfl, ha⟩)
                    | (go_at_call 11; refine (AW.out _).mono ?_; rintro e vb ⟨rfl, hb9⟩))
                rename_i hh
                have hBU2 := hh.2.2.2.2.2.2.2.2.2.2.2.2.2.2.2.2.2.2
                go_wp2
                go_ret
                exact ⟨rfl, hBU.trans hBU2⟩
              · obtain ⟨B, hBB⟩ : ∃ B, B = v1.heap.size := ⟨_, rfl⟩
                obtain ⟨U, hU⟩ : ∃ U, U = ((v3.setCell ⟨B, 0, none⟩ (.int .i64 m)).setCell ⟨B, 1, none⟩ (.int .i64 m)).setCell ⟨B, 2, none⟩ (.slice p3 la c3) := ⟨_, rfl⟩
                have Ntm : MBox U B m m p3 la c3 := by rw [hU, hBB]; exact mz.fill _ _ _ _ _
                have f4 : Fresh (B + 1) (.slice p3 la c3) := fun g hg => by have h4 := F3.out.2 g hg; have h5 := zl; have h6 := h1.size; have h7 := h2.size; have h8 := h3.size; simp only [World.size_alloc, World.drew] at h4 h6 h7 h8; omega
                have Ytm : MxI U m m p3 la c3 (mulI m (fun i k => fb k i) (fun i k => fa k i)) := by rw [hU]; exact ⟨G3.out.1, G3.out.2.1, (((F3.out.1.set (p := ⟨B, 0, none⟩) _ f4).set (p := ⟨B, 1, none⟩) _ f4).set (p := ⟨B, 2, none⟩) _ f4).q⟩
                rename_i hh
                have bU : Bl V U := by rw [hU, hBB]; exact hh.2.2.2.2.2.2
                clear hh
                have YTM := hideP Ytm
                clear Ytm
                rw [← hBB, ← hU]
                clear hU hBB G1 G2 G3 F3 TA TB TM KP mz z0 z1 z2 y0 y1 y2 zl f4
                have Nle := Nle.later bU
                have Nri := Nri.later bU
                have Nxu := Nxu.later bU
                have Na := Na.later bU
                have Nxy := Nxy.later bU
                have KQ := hideP (fun (u : World) (hu : Bl U u) => (show u.cell? ⟨wle.heap.size, 0, none⟩ = some (.int .i64 m) ∧ u.cell? ⟨wle.heap.size, 1, none⟩ = some (.int .i64 m) ∧ u.cell? ⟨wle.heap.size, 2, none⟩ = some (.slice qle la kle) ∧ u.cell? ⟨wri.heap.size, 0, none⟩ = some (.int .i64 m) ∧ u.cell? ⟨wri.heap.size, 1, none⟩ = some (.int .i64 m) ∧ u.cell? ⟨wri.heap.size, 2, none⟩ = some (.slice qri la kri) ∧ u.cell? ⟨wxu.heap.size, 0, none⟩ = some (.int .i64 m) ∧ u.cell? ⟨wxu.heap.size, 1, none⟩ = some (.int .i64 m) ∧ u.cell? ⟨wxu.heap.size, 2, none⟩ = some (.slice qxu la kxu) ∧ u.cell? ⟨wa.heap.size, 0, none⟩ = some (.int .i64 m) ∧ u.cell? ⟨wa.heap.size, 1, none⟩ = some (.int .i64 m) ∧ u.cell? ⟨wa.heap.size, 2, none⟩ = some (.slice qa la ka) ∧ u.cell? ⟨wxy.heap.size, 0, none⟩ = some (.int .i64 m) ∧ u.cell? ⟨wxy.heap.size, 1, none⟩ = some (.int .i64 m) ∧ u.cell? ⟨wxy.heap.size, 2, none⟩ = some (.slice qxy la kxy) ∧ u.cell? ⟨B, 0, none⟩ = some (.int .i64 m) ∧ u.cell? ⟨B, 1, none⟩ = some (.int .i64 m) ∧ u.cell? ⟨B, 2, none⟩ = some (.slice p3 la c3) ∧ Bl U u from ⟨(Nle.later hu).c0, (Nle.later hu).c1, (Nle.later hu).c2, (Nri.later hu).c0, (Nri.later hu).c1, (Nri.later hu).c2, (Nxu.later hu).c0, (Nxu.later hu).c1, (Nxu.later hu).c2, (Na.later hu).c0, (Na.later hu).c1, (Na.later hu).c2, (Nxy.later hu).c0, (Nxy.later hu).c1, (Nxy.later hu).c2, (Ntm.later hu).c0, (Ntm.later hu).c1, (Ntm.later hu).c2, hu⟩))
                have A1 := hideP (fun (u : World) (hu : Bl U u) => alike6_any m m qle qri la kle kri _ _ u (Yle.out.later (bU.trans hu)) (Yri.out.later (bU.trans hu)) (fun i k _ _ => mulI_mul_r m fa fb fc m i k))
                have A2 := hideP (fun (u : World) (hu : Bl U u) => alike6_any m m qxu qa la kxu ka _ _ u (Yxu.out.later (bU.trans hu)) (Ya.out.later (bU.trans hu)) (fun i k _ hk => by rw [mulI_unit_r, if_pos hk]))
                have T1 := hideP (fun (u : World) (hu : Bl U u) => turn6_any m m qa la ka fa u (Ya.out.later (bU.trans hu)))
                have T2 := hideP (fun p c (u : World) (h : MxI u m m p la c (fun i k => fa k i)) => turn6_any m m p la c _ u h)
                have A3 := hideP (fun p c (u : World) (hu : Bl U u) (h : MxI u m m p la c (fun i k => fa i k)) => alike6_any m m p qa la c ka _ _ u h (Ya.out.later (bU.trans hu)) (fun _ _ _ _ => rfl))
                have T3 := hideP (fun (u : World) (hu : Bl U u) => turn6_any m m qxy la kxy _ u (Yxy.out.later (bU.trans hu)))
                have A4 := hideP (fun p c (u : World) (hu : Bl U u) (h : MxI u m m p la c (fun i k => mulI m fa fb k i)) => alike6_any m m p p3 la c c3 _ _ u h (YTM.out.later hu) (fun i k _ _ => (mulI_turn m fa fb i k).symm))
                clear Yle Yri Yxu Ya Yxy YTM
                have hBU : Bl w U := hBV.trans bU
                go_wp2_with fail
                go_region_held3 (fun w' => w'.cell? ⟨wle.heap.size, 0, none⟩ = some (.int .i64 m) ∧ w'.cell? ⟨wle.heap.size, 1, none⟩ = some (.int .i64 m) ∧ w'.cell? ⟨wle.heap.size, 2, none⟩ = some (.slice qle la kle) ∧ w'.cell? ⟨wri.heap.size, 0, none⟩ = some (.int .i64 m) ∧ w'.cell? ⟨wri.heap.size, 1, none⟩ = some (.int .i64 m) ∧ w'.cell? ⟨wri.heap.size, 2, none⟩ = some (.slice qri la kri) ∧ w'.cell? ⟨wxu.heap.size, 0, none⟩ = some (.int .i64 m) ∧ w'.cell? ⟨wxu.heap.size, 1, none⟩ = some (.int .i64 m) ∧ w'.cell? ⟨wxu.heap.size, 2, none⟩ = some (.slice qxu la kxu) ∧ w'.cell? ⟨wa.heap.size, 0, none⟩ = some (.int .i64 m) ∧ w'.cell? ⟨wa.heap.size, 1, none⟩ = some (.int .i64 m) ∧ w'.cell? ⟨wa.heap.size, 2, none⟩ = some (.slice qa la ka) ∧ w'.cell? ⟨wxy.heap.size, 0, none⟩ = some (.int .i64 m) ∧ w'.cell? ⟨wxy.heap.size, 1, none⟩ = some (.int .i64 m) ∧ w'.cell? ⟨wxy.heap.size, 2, none⟩ = some (.slice qxy la kxy) ∧ w'.cell? ⟨B, 0, none⟩ = some (.int .i64 m) ∧ w'.cell? ⟨B, 1, none⟩ = some (.int .i64 m) ∧ w'.cell? ⟨B, 2, none⟩ = some (.slice p3 la c3) ∧ Bl U w') (exact KQ.out _ (by repeat (first | exact Bl.refl _ | assumption | apply Bl.drew | apply Bl.alloc | (refine Bl.put3 ?_ (by omega) _ _ _) | (refine Bl.trans ?_ (by assumption)))))
                  (first
                    | (go_at_call_of 30 (Value.slice qle la kle); refine (A1.out _ (by repeat (first | exact Bl.refl _ | assumption | apply Bl.drew | apply Bl.alloc | (refine Bl.put3 ?_ (by omega) _ _ _) | (refine Bl.trans ?_ (by assumption))))).mono ?_; rintro e v4 ⟨rfl, h4⟩)
                    | (go_at_call_of 30 (Value.slice qxu la kxu); refine (A2.out _ (by repeat (first | exact Bl.refl _ | assumption | apply Bl.drew | apply Bl.alloc | (refine Bl.put3 ?_ (by omega) _ _ _) | (refine Bl.trans ?_ (by assumption))))).mono ?_; rintro e v5 ⟨rfl, h5⟩)
                    | (go_at_call_of 26 (Value.slice qa la ka); refine (T1.out _ (by repeat (first | exact Bl.refl _ | assumption | apply Bl.drew | apply Bl.alloc | (refine Bl.put3 ?_ (by omega) _ _ _) | (refine Bl.trans ?_ (by assumption))))).mono ?_; rintro e v6 ⟨p6, c6, rfl, ⟨g6, _⟩, h6⟩; have G6 := hideP g6; clear g6)
                    | (go_at_call_of 26 (Value.slice qxy la kxy); refine (T3.out _ (by repeat (first | exact Bl.refl _ | assumption | apply Bl.drew | apply Bl.alloc | (refine Bl.put3 ?_ (by omega) _ _ _) | (refine Bl.trans ?_ (by assumption))))).mono ?_; rintro e v9 ⟨p9, c9, rfl, ⟨g9, _⟩, h9⟩; have G9 := hideP g9; clear g9)
                    | (go_at_call_of 26 (mV (m : Int) (m : Int) p6 la c6); refine (T2.out p6 c6 _ (G6.out.later (by repeat (first | exact Bl.refl _ | assumption | apply Bl.drew | apply Bl.alloc | (refine Bl.put3 ?_ (by omega) _ _ _) | (refine Bl.trans ?_ (by assumption)))))).mono ?_; rintro e v7 ⟨p7, c7, rfl, ⟨g7, _⟩, h7⟩; have G7 := hideP g7; clear g7)
                    | (go_at_call_of 30 (mV (m : Int) (m : Int) p7 la c7); refine (A3.out p7 c7 _ (by repeat (first | exact Bl.refl _ | assumption | apply Bl.drew | apply Bl.alloc | (refine Bl.put3 ?_ (by omega) _ _ _) | (refine Bl.trans ?_ (by assumption)))) (G7.out.later (by repeat (first | exact Bl.refl _ | assumption | apply Bl.drew | apply Bl.alloc | (refine Bl.put3 ?_ (by omega) _ _ _) | (refine Bl.trans ?_ (by assumption)))))).mono ?_; rintro e v8 ⟨rfl, h8⟩)
                    | (go_at_call_of 30 (mV (m : Int) (m : Int) p9 la c9); refine (A4.out p9 c9 _ (by repeat (first | exact Bl.refl _ | assumption | apply Bl.drew | apply Bl.alloc | (refine Bl.put3 ?_ (by omega) _ _ _) | (refine Bl.trans ?_ (by assumption)))) (G9.out.later (by repeat (first | exact Bl.refl _ | assumption | apply Bl.drew | apply Bl.alloc | (refine Bl.put3 ?_ (by omega) _ _ _) | (refine Bl.trans ?_ (by assumption)))))).mono ?_; rintro e va ⟨rfl, ha⟩)
                    | (go_at_call 11; refine (AW.out _).mono ?_; rintro e vb ⟨rfl, hb9⟩))
                rename_i hh
                have hBU2 := hh.2.2.2.2.2.2.2.2.2.2.2.2.2.2.2.2.2.2
                go_wp2
                go_ret
                exact ⟨rfl, hBU.trans hBU2⟩
              · obtain ⟨B, hBB⟩ : ∃ B, B = V.heap.size := ⟨_, rfl⟩
                obtain ⟨U, hU⟩ : ∃ U, U = ((v3.setCell ⟨B, 0, none⟩ (.int .i64 m)).setCell ⟨B, 1, none⟩ (.int .i64 m)).setCell ⟨B, 2, none⟩ (.slice p3 la c3) := ⟨_, rfl⟩
                have Ntm : MBox U B m m p3 la c3 := by rw [hU, hBB]; exact mz.fill _ _ _ _ _
                have f4 : Fresh (B + 1) (.slice p3 la c3) := fun g hg => by have h4 := F3.out.2 g hg; have h5 := zl; have h6 := h1.size; have h7 := h2.size; have h8 := h3.size; simp only [World.size_alloc, World.drew] at h4 h6 h7 h8; omega
                have Ytm : MxI U m m p3 la c3 (mulI m (fun i k => fb k i) (fun i k => fa k i)) := by rw [hU]; exact ⟨G3.out.1, G3.out.2.1, (((F3.out.1.set (p := ⟨B, 0, none⟩) _ f4).set (p := ⟨B, 1, none⟩) _ f4).set (p := ⟨B, 2, none⟩) _ f4).q⟩
                rename_i hh
                have bU : Bl V U := by rw [hU, hBB]; exact hh.2.2.2.2.2.2
                clear hh
                have YTM := hideP Ytm
                clear Ytm
                rw [← hBB, ← hU]
                clear hU hBB G1 G2 G3 F3 TA TB TM KP mz z0 z1 z2 y0 y1 y2 zl f4
                have Nle := Nle.later bU
                have Nri := Nri.later bU
                have Nxu := Nxu.later bU
                have Na := Na.later bU
                have Nxy := Nxy.later bU
                have KQ := hideP (fun (u : World) (hu : Bl U u) => (show u.cell? ⟨wle.heap.size, 0, none⟩ = some (.int .i64 m) ∧ u.cell? ⟨wle.heap.size, 1, none⟩ = some (.int .i64 m) ∧ u.cell? ⟨wle.heap.size, 2, none⟩ = some (.slice qle la kle) ∧ u.cell? ⟨wri.heap.size, 0, none⟩ = some (.int .i64 m) ∧ u.cell? ⟨wri.heap.size, 1, none⟩ = some (.int .i64 m) ∧ u.cell? ⟨wri.heap.size, 2, none⟩ = some (.slice qri la kri) ∧ u.cell? ⟨wxu.heap.size, 0, none⟩ = some (.int .i64 m) ∧ u.cell? ⟨wxu.heap.size, 1, none⟩ = some (.int .i64 m) ∧ u.cell? ⟨wxu.heap.size, 2, none⟩ = some (.slice qxu la kxu) ∧ u.cell? ⟨wa.heap.size, 0, none⟩ = some (.int .i64 m) ∧ u.cell? ⟨wa.heap.size, 1, none⟩ = some (.int .i64 m) ∧ u.cell? ⟨wa.heap.size, 2, none⟩ = some (.slice qa la ka) ∧ u.cell? ⟨wxy.heap.size, 0, none⟩ = some (.int .i64 m) ∧ u.cell? ⟨wxy.heap.size, 1, none⟩ = some (.int .i64 m) ∧ u.cell? ⟨wxy.heap.size, 2, none⟩ = some (.slice qxy la kxy) ∧ u.cell? ⟨B, 0, none⟩ = some (.int .i64 m) ∧ u.cell? ⟨B, 1, none⟩ = some (.int .i64 m) ∧ u.cell? ⟨B, 2, none⟩ = some (.slice p3 la c3) ∧ Bl U u from ⟨(Nle.later hu).c0, (Nle.later hu).c1, (Nle.later hu).c2, (Nri.later hu).c0, (Nri.later hu).c1, (Nri.later hu).c2, (Nxu.later hu).c0, (Nxu.later hu).c1, (Nxu.later hu).c2, (Na.later hu).c0, (Na.later hu).c1, (Na.later hu).c2, (Nxy.later hu).c0, (Nxy.later hu).c1, (Nxy.later hu).c2, (Ntm.later hu).c0, (Ntm.later hu).c1, (Ntm.later hu).c2, hu⟩))
                have A1 := hideP (fun (u : World) (hu : Bl U u) => alike6_any m m qle qri la kle kri _ _ u (Yle.out.later (bU.trans hu)) (Yri.out.later (bU.trans hu)) (fun i k _ _ => mulI_mul_r m fa fb fc m i k))
                have A2 := hideP (fun (u : World) (hu : Bl U u) => alike6_any m m qxu qa la kxu ka _ _ u (Yxu.out.later (bU.trans hu)) (Ya.out.later (bU.trans hu)) (fun i k _ hk => by rw [mulI_unit_r, if_pos hk]))
                have T1 := hideP (fun (u : World) (hu : Bl U u) => turn6_any m m qa la ka fa u (Ya.out.later (bU.trans hu)))
                have T2 := hideP (fun p c (u : World) (h : MxI u m m p la c (fun i k => fa k i)) => turn6_any m m p la c _ u h)
                have A3 := hideP (fun p c (u : World) (hu : Bl U u) (h : MxI u m m p la c (fun i k => fa i k)) => alike6_any m m p qa la c ka _ _ u h (Ya.out.later (bU.trans hu)) (fun _ _ _ _ => rfl))
                have T3 := hideP (fun (u : World) (hu : Bl U u) => turn6_any m m qxy la kxy _ u (Yxy.out.later (bU.trans hu)))
                have A4 := hideP (fun p c (u : World) (hu : Bl U u) (h : MxI u m m p la c (fun i k => mulI m fa fb k i)) => alike6_any m m p p3 la c c3 _ _ u h (YTM.out.later hu) (fun i k _ _ => (mulI_turn m fa fb i k).symm))
                clear Yle Yri Yxu Ya Yxy YTM
                have hBU : Bl w U := hBV.trans bU
                go_wp2_with fail
                go_region_held3 (fun w' => w'.cell? ⟨wle.heap.size, 0, none⟩ = some (.int .i64 m) ∧ w'.cell? ⟨wle.heap.size, 1, none⟩ = some (.int .i64 m) ∧ w'.cell? ⟨wle.heap.size, 2, none⟩ = some (.slice qle la kle) ∧ w'.cell? ⟨wri.heap.size, 0, none⟩ = some (.int .i64 m) ∧ w'.cell? ⟨wri.heap.size, 1, none⟩ = some (.int .i64 m) ∧ w'.cell? ⟨wri.heap.size, 2, none⟩ = some (.slice qri la kri) ∧ w'.cell? ⟨wxu.heap.size, 0, none⟩ = some (.int .i64 m) ∧ w'.cell? ⟨wxu.heap.size, 1, none⟩ = some (.int .i64 m) ∧ w'.cell? ⟨wxu.heap.size, 2, none⟩ = some (.slice qxu la kxu) ∧ w'.cell? ⟨wa.heap.size, 0, none⟩ = some (.int .i64 m) ∧ w'.cell? ⟨wa.heap.size, 1, none⟩ = some (.int .i64 m) ∧ w'.cell? ⟨wa.heap.size, 2, none⟩ = some (.slice qa la ka) ∧ w'.cell? ⟨wxy.heap.size, 0, none⟩ = some (.int .i64 m) ∧ w'.cell? ⟨wxy.heap.size, 1, none⟩ = some (.int .i64 m) ∧ w'.cell? ⟨wxy.heap.size, 2, none⟩ = some (.slice qxy la kxy) ∧ w'.cell? ⟨B, 0, none⟩ = some (.int .i64 m) ∧ w'.cell? ⟨B, 1, none⟩ = some (.int .i64 m) ∧ w'.cell? ⟨B, 2, none⟩ = some (.slice p3 la c3) ∧ Bl U w') (exact KQ.out _ (by repeat (first | exact Bl.refl _ | assumption | apply Bl.drew | apply Bl.alloc | (refine Bl.put3 ?_ (by omega) _ _ _) | (refine Bl.trans ?_ (by assumption)))))
                  (first
                    | (go_at_call_of 30 (Value.slice qle la kle); refine (A1.out _ (by repeat (first | exact Bl.refl _ | assumption | apply Bl.drew | apply Bl.alloc | (refine Bl.put3 ?_ (by omega) _ _ _) | (refine Bl.trans ?_ (by assumption))))).mono ?_; rintro e v4 ⟨rfl, h4⟩)
                    | (go_at_call_of 30 (Value.slice qxu la kxu); refine (A2.out _ (by repeat (first | exact Bl.refl _ | assumption | apply Bl.drew | apply Bl.alloc | (refine Bl.put3 ?_ (by omega) _ _ _) | (refine Bl.trans ?_ (by assumption))))).mono ?_; rintro e v5 ⟨rfl, h5⟩)
                    | (go_at_call_of 26 (Value.slice qa la ka); refine (T1.out _ (by repeat (first | exact Bl.refl _ | assumption | apply Bl.drew | apply Bl.alloc | (refine Bl.put3 ?_ (by omega) _ _ _) | (refine Bl.trans ?_ (by assumption))))).mono ?_; rintro e v6 ⟨p6, c6, rfl, ⟨g6, _⟩, h6⟩; have G6 := hideP g6; clear g6)
                    | (go_at_call_of 26 (Value.slice qxy la kxy); refine (T3.out _ (by repeat (first | exact Bl.refl _ | assumption | apply Bl.drew | apply Bl.alloc | (refine Bl.put3 ?_ (by omega) _ _ _) | (refine Bl.trans ?_ (by assumption))))).mono ?_; rintro e v9 ⟨p9, c9, rfl, ⟨g9, _⟩, h9⟩; have G9 := hideP g9; clear g9)
                    | (go_at_call_of 26 (mV (m : Int) (m : Int) p6 la c6); refine (T2.out p6 c6 _ (G6.out.later (by repeat (first | exact Bl.refl _ | assumption | apply Bl.drew | apply Bl.alloc | (refine Bl.put3 ?_ (by omega) _ _ _) | (refine Bl.trans ?_ (by assumption)))))).mono ?_; rintro e v7 ⟨p7, c7, rfl, ⟨g7, _⟩, h7⟩; have G7 := hideP g7; clear g7)
                    | (go_at_call_of 30 (mV (m : Int) (m : Int) p7 la c7); refine (A3.out p7 c7 _ (by repeat (first | exact Bl.refl _ | assumption | apply Bl.drew | apply Bl.alloc | (refine Bl.put3 ?_ (by omega) _ _ _) | (refine Bl.trans ?_ (by assumption)))) (G7.out.later (by repeat (first | exact Bl.refl _ | assumption | apply Bl.drew | apply Bl.alloc | (refine Bl.put3 ?_ (by omega) _ _ _) | (refine Bl.trans ?_ (by assumption)))))).mono ?_; rintro e v8 ⟨rfl, h8⟩)
                    | (go_at_call_of 30 (mV (m : Int) (m : Int) p9 la c9); refine (A4.out p9 c9 _ (by repeat (first | exact Bl.refl _ | assumption | apply Bl.drew | apply Bl.alloc | (refine Bl.put3 ?_ (by omega) _ _ _) | (refine Bl.trans ?_ (by assumption)))) (G9.out.later (by repeat (first | exact Bl.refl _ | assumption | apply Bl.drew | apply Bl.alloc | (refine Bl.put3 ?_ (by omega) _ _ _) | (refine Bl.trans ?_ (by assumption)))))).mono ?_; rintro e va ⟨rfl, ha⟩)
                    | (go_at_call 11; refine (AW.out _).mono ?_; rintro e vb ⟨rfl, hb9⟩))
                rename_i hh
                have hBU2 := hh.2.2.2.2.2.2.2.2.2.2.2.2.2.2.2.2.2.2
                go_wp2
                go_ret
                exact ⟨rfl, hBU.trans hBU2⟩
end Go.Proofs.Ytokbmbgiimbkpaa

/- A slice of whole numbers as an argument: opened. -/
namespace Go.Proofs.Ytokbmbgiimbkpaa
open Go.ChangeShapes Go.WideShapes Go.ChangeAt Go.RowKit
set_option linter.unusedVariables false

theorem Try.cellsInt : Try.prog.cellsOf 3 = 1 := by kernel_rfl
theorem cell_block_lt {W : World} {b o : Nat} {v : Value} (h : W.cell? ⟨b, o, none⟩ = some v) : b < W.heap.size := by
  rcases Nat.lt_or_ge b W.heap.size with h' | h'
  · exact h'
  · have : W.heap[b]? = none := Array.getElem?_eq_none h'
    simp [World.cell?, this] at h
set_option maxRecDepth 1000000 in
theorem open_row {H : Type} {enc : TypeId × Value → H} {W : World} {b0 : Nat} {v : Value} {d : DataW H} {p : List MemPlace}
    (hv : Value.okWide Try.prog W .any b0 22 v) (h : DataW.Trod enc Try.prog W 0 (fun _ => true) true 22 v d p) : ∃ ns : List Int, Rq 1 cI W v ns ∧ ∀ n ∈ ns, (Lit.int .i64 n).wf = true := by
  obtain ⟨a0, len, cap, rfl⟩ := okWide_slice Try.underlying22 hv
  obtain ⟨fuel, hf⟩ := h
  rcases open_ints Try.underlying22 Try.underlying3 Try.cellsInt hf with ⟨hcs, hx⟩ | ⟨a, len', cap', zs, hcs, _, hl, hm, hz, hx, hcell, hwz⟩
  · simp [Value.cells] at hcs
    obtain ⟨rfl, rfl, rfl⟩ := hcs
    exact ⟨[], .inl ⟨none, 0, rfl, rfl, fun _ => rfl⟩, fun n hn => by simp at hn⟩
  · simp [Value.cells] at hcs
    obtain ⟨rfl, rfl, rfl⟩ := hcs
    simp only [if_true] at hz
    refine ⟨zs.take len, ?_, fun n hn => hwz n (List.mem_of_mem_take hn)⟩
    by_cases h0 : len = 0
    · subst h0
      exact .inl ⟨some a, cap, rfl, by simp, nofun⟩
    · have c0 := hcell 0 (by omega)
      obtain ⟨b, off, rfl, hc⟩ := ints_at hcell (by omega)
      have hb : b < W.heap.size := by
        have := hc 0 (by omega)
        exact cell_block_lt this
      have hll : (zs.take len).length = len := by simp; omega
      refine .inr ⟨b, off, cap, by rw [hll], by omega, hb, fun j x hj k u hu => ?_⟩
      rcases k with _ | k
      · simp at hu
        subst hu
        have hj2 := (List.getElem?_eq_some_iff.1 hj).1
        have := hc j (by omega)
        rw [List.getElem?_take] at hj
        split at hj
        · have e : zs.getD j 0 = x := by simp [List.getD, hj]
          rw [e] at this
          simpa using this
        · cases hj
      · simp at hu
end Go.Proofs.Ytokbmbgiimbkpaa

/- MatRules: products of three hang on no brackets; what is turned twice is itself; the unit changes nothing; a product, turned, is that of both turned, the other way round (of 4 by 4 at most, numbers from -100 up to 100). Conditions: none (every input). -/
namespace Go.Proofs.Ytokbmbgiimbkpaa
open Go.ChangeShapes Go.WideShapes Go.ChangeAt Go.RowKit
set_option linter.unusedVariables false

theorem own_MatRules : ownKnob Try.prog.godebug = none := by kernel_rfl
theorem laid_MatRules : laidOutB Try.prog = true := by kernel_rfl
set_option maxRecDepth 100000 in
theorem lifted_MatRules (os : Os) (started : os.Started) (H : Type) (enc : TypeId × Value → H) :
    ReturnsInHanded {} Try.checked os 7 .any (Rows.matRulesSpec.pre6 enc Try.prog Try.f7 Rows.matRulesRow.domain false) (Rows.matRulesSpec.post enc Try.prog Try.f7 false true false false) := by
  refine returnsInHanded_of_change (C := Try.checked) own_MatRules started (by kernel_rfl) Try.func7
    (ChangeSpec.witness6 (enc := enc) (C := Try.checked) false ⟨#[], #[.slice none 0 0, .slice none 0 0, .slice none 0 0, .int .i64 0], []⟩ 8 (by kernel_rfl) (by kernel_rfl) (by kernel_rfl) (by kernel_rfl)) ?_
  intro W base args ds gs before hval0 hW hcnd _
  have hval : ∀ (j : Nat) t v, Try.f7.params[j]? = some t → args[j]? = some v → Value.okWide Try.prog W .any base t v := hval0
  have hW' := hW
  obtain ⟨p, q, hA0, hV, rfl, hfz, hnd⟩ := hW
  have hA : DataW.TrodAll enc Try.prog W 0 (fun _ => true) true Try.f7.params.toList args.toList ds p := hA0
  rw [Try.params7] at hA hval
  obtain ⟨v0, vs0, d0, ds0, p0, q0, hargs, rfl, rfl, h0, r0⟩ := trodAll_cons hA
  obtain ⟨v1, vs1, d1, ds1, p1, q1, rfl, rfl, rfl, h1, r1⟩ := trodAll_cons r0
  obtain ⟨v2, vs2, d2, ds2, p2, q2, rfl, rfl, rfl, h2, r2⟩ := trodAll_cons r1
  obtain ⟨v3, vs3, d3, ds3, p3, q3, rfl, rfl, rfl, h3, r3⟩ := trodAll_cons r2
  obtain ⟨rfl, rfl, rfl⟩ := trodAll_nil r3
  obtain rfl : args = #[v0, v1, v2, v3] := by cases args; simp_all
  obtain ⟨rfl, rfl⟩ := trodVars_none hV
  have hltA := fun x hx => hW'.lt x hx
  obtain ⟨a0, R0, w0⟩ := open_row (hval 0 22 v0 rfl rfl) h0
  obtain ⟨a1, R1, w1⟩ := open_row (hval 1 22 v1 rfl rfl) h1
  obtain ⟨a2, R2, w2⟩ := open_row (hval 2 22 v2 rfl rfl) h2
  obtain ⟨a3, e3, _, _, w3⟩ := open_int Try.underlying3 (hval 3 3 v3 rfl rfl) h3
  subst e3
  clear hA0 hval0
  refine (walk_MatRules v0 a0 v1 a1 v2 a2 a3 W R0 R1 R2).mono fun e W' ⟨he, bel⟩ => ?_
  subst he
  exact ⟨_, rfl, _, _, _, [], _, [], hW', trodAll_mk1 (shut_bool Try.underlying4 _), (trodAll_cons_mk (Below.trod laid_MatRules (by kernel_rfl) (of_decide_eq_true (by kernel_rfl)) h0 bel (fun x hx => by have := hltA x (by simp [hx]); simpa using this)) (trodAll_cons_mk (Below.trod laid_MatRules (by kernel_rfl) (of_decide_eq_true (by kernel_rfl)) h1 bel (fun x hx => by have := hltA x (by simp [hx]); simpa using this)) (trodAll_cons_mk (Below.trod laid_MatRules (by kernel_rfl) (of_decide_eq_true (by kernel_rfl)) h2 bel (fun x hx => by have := hltA x (by simp [hx]); simpa using this)) (trodAll_cons_mk (Below.trod laid_MatRules (by kernel_rfl) (of_decide_eq_true (by kernel_rfl)) h3 bel (fun x hx => by have := hltA x (by simp [hx]); simpa using this)) trodAll_mk0)))), rfl, Below.frame bel _, fun h => by cases h⟩

theorem proved_MatRules : Rows.MatRulesSaid :=
  OpenClaim.holds_of_wide 7 Try.f7 rfl rfl rfl rfl rfl rfl rfl ⟨rfl, rfl, rfl, rfl, rfl⟩ rfl rfl rfl rfl rfl (by kernel_rfl) Try.func7 (by kernel_rfl)
    (of_decide_eq_true (by kernel_rfl)) (by unfold Func.isWrapper; first | (rw [if_pos (by decide +kernel)]; kernel_rfl) | (rw [if_neg (by decide +kernel)]; exact ⟨rfl, rfl⟩))
    (fun os started H enc _ => lifted_MatRules os started H enc)
#print axioms proved_MatRules
end Go.Proofs.Ytokbmbgiimbkpaa

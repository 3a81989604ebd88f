/- Four rows of whole numbers that grow beside one another; an append as one operation; the numbers that MatSums asks for (layer 6's laws). -/
import Derived.Test.YtokbmbgiimbkpaaMaJ
import Derived.Test.YtokbmbgiimbkpaaMaLF
import Derived.Test.YtokbmbgiimbkpaaMaR
import Derived.Maps.AppendAt
namespace Go.Proofs.Ytokbmbgiimbkpaa
open Go.RowKit
set_option linter.unusedSimpArgs false
set_option linter.unusedVariables false

/-- Two rows lie in blocks of their own. -/
def Apart (a b : Value) : Prop := ∀ g, a.ownBlock = some g → b.ownBlock ≠ some g
theorem Apart.symm {a b : Value} (h : Apart a b) : Apart b a := fun g hb ha => h g ha hb
abbrev OwnI (n0 : Nat) (u : World) (v : Value) (l : List Int) : Prop := u.ownsRow n0 3 1 v l.length (l.flatMap cellsI)
theorem apart_nil (v : Value) : Apart v (.slice none 0 0) := fun g _ h => by cases h
structure Own4 (n0 : Nat) (u : World) (v1 v2 v3 v4 : Value) (l1 l2 l3 l4 : List Int) : Prop where
  o1 : OwnI n0 u v1 l1
  o2 : OwnI n0 u v2 l2
  o3 : OwnI n0 u v3 l3
  o4 : OwnI n0 u v4 l4
  d12 : Apart v1 v2
  d13 : Apart v1 v3
  d14 : Apart v1 v4
  d23 : Apart v2 v3
  d24 : Apart v2 v4
  d34 : Apart v3 v4
theorem Own4.nil (n0 : Nat) (u : World) : Own4 n0 u (.slice none 0 0) (.slice none 0 0) (.slice none 0 0) (.slice none 0 0) [] [] [] [] :=
  ⟨World.ownsRow_nil _ _ _ _, World.ownsRow_nil _ _ _ _, World.ownsRow_nil _ _ _ _, World.ownsRow_nil _ _ _ _, apart_nil _, apart_nil _, apart_nil _, apart_nil _, apart_nil _, apart_nil _⟩
theorem Own4.later {n0 : Nat} {u u' : World} {v1 v2 v3 v4 : Value} {l1 l2 l3 l4 : List Int} (h : Own4 n0 u v1 v2 v3 v4 l1 l2 l3 l4) (k : Bl u u') : Own4 n0 u' v1 v2 v3 v4 l1 l2 l3 l4 :=
  ⟨own_blI h.o1 k, own_blI h.o2 k, own_blI h.o3 k, own_blI h.o4 k, h.d12, h.d13, h.d14, h.d23, h.d24, h.d34⟩
theorem Own4.to2 {n0 : Nat} {u : World} {v1 v2 v3 v4 : Value} {l1 l2 l3 l4 : List Int} (h : Own4 n0 u v1 v2 v3 v4 l1 l2 l3 l4) : Own4 n0 u v2 v1 v3 v4 l2 l1 l3 l4 :=
  ⟨h.o2, h.o1, h.o3, h.o4, h.d12.symm, h.d23, h.d24, h.d13, h.d14, h.d34⟩
theorem Own4.to3 {n0 : Nat} {u : World} {v1 v2 v3 v4 : Value} {l1 l2 l3 l4 : List Int} (h : Own4 n0 u v1 v2 v3 v4 l1 l2 l3 l4) : Own4 n0 u v3 v2 v1 v4 l3 l2 l1 l4 :=
  ⟨h.o3, h.o2, h.o1, h.o4, h.d23.symm, h.d13.symm, h.d34, h.d12.symm, h.d24, h.d14⟩
theorem Own4.to4 {n0 : Nat} {u : World} {v1 v2 v3 v4 : Value} {l1 l2 l3 l4 : List Int} (h : Own4 n0 u v1 v2 v3 v4 l1 l2 l3 l4) : Own4 n0 u v4 v2 v3 v1 l4 l2 l3 l1 :=
  ⟨h.o4, h.o2, h.o3, h.o1, h.d24.symm, h.d34.symm, h.d14.symm, h.d23, h.d12.symm, h.d13.symm⟩
/-- A row whose block an append to another one leaves as it was. -/
theorem ownI_beside {n0 : Nat} {u u' : World} {v1 v : Value} {l : List Int} (h : OwnI n0 u v l) (hg : u.grownBy u' v1.ownBlock) (ha : Apart v1 v) : OwnI n0 u' v l := by
  refine ⟨h.1, ?_⟩
  rcases h.2 with hn | ⟨g, cap, cur, rfl, hb, hgg, rest⟩
  · exact .inl hn
  · refine .inr ⟨g, cap, cur, rfl, hb, (hg.block g (Array.getElem?_eq_some_iff.1 hgg).1 (fun e => ?_)).trans hgg, rest⟩
    exact ha g e.symm rfl
theorem apart_grown {n0 : Nat} {u : World} {v1 v1' v : Value} {l : List Int} (h : OwnI n0 u v l) (ha : Apart v1 v) (hat : v1'.ownBlock = v1.ownBlock ∨ v1'.ownBlock = some u.heap.size) : Apart v1' v := by
  intro g h1 h2
  rcases hat with e | e
  · exact ha g (e ▸ h1) h2
  · rw [e] at h1
    cases h1
    have := (h.lt _ h2).2
    omega
theorem Own4.grow {n0 : Nat} {u u' : World} {v1 v1' v2 v3 v4 : Value} {l1 l2 l3 l4 ys : List Int} (h : Own4 n0 u v1 v2 v3 v4 l1 l2 l3 l4) (ho : OwnI n0 u' v1' (l1 ++ ys)) (hg : u.grownBy u' v1.ownBlock) (hat : v1'.ownBlock = v1.ownBlock ∨ v1'.ownBlock = some u.heap.size) : Own4 n0 u' v1' v2 v3 v4 (l1 ++ ys) l2 l3 l4 :=
  ⟨ho, ownI_beside h.o2 hg h.d12, ownI_beside h.o3 hg h.d13, ownI_beside h.o4 hg h.d14, apart_grown h.o2 h.d12 hat, apart_grown h.o3 h.d13 hat, apart_grown h.o4 h.d14 hat, h.d23, h.d24, h.d34⟩
/-- What is behind an append to the first of four rows: of what lay below n0 nothing has turned, nor of any block but the row's own. -/
def Beh (n0 : Nat) (w : World) (v1 : Value) (l1 ys : List Int) (v2 v3 v4 : Value) (l2 l3 l4 : List Int) (v' : Value) (w' : World) : Prop :=
  Own4 n0 w' v' v2 v3 v4 (l1 ++ ys) l2 l3 l4 ∧ w.grownBy w' v1.ownBlock ∧ (∀ g, v1.ownBlock = some g → n0 ≤ g)
theorem ownI_append {n0 m : Nat} {w' : World} {v' : Value} {l1 ys : List Int} (hl : ys.length = m) (h : w'.ownsRow n0 3 1 v' (l1.length + m) (l1.flatMap cellsI ++ ys.flatMap cellsI)) : OwnI n0 w' v' (l1 ++ ys) := by
  subst hl
  show w'.ownsRow _ _ _ _ (l1 ++ ys).length ((l1 ++ ys).flatMap cellsI)
  rw [List.length_append, List.flatMap_append]
  exact h
theorem flatI_mapS (xs : List Int) : xs.flatMap cellsI = xs.map (fun x => (.int .i64 x : Value)) := by
  induction xs with
  | nil => rfl
  | cons x xs ih => rw [List.flatMap_cons, ih]; rfl
theorem flatI_len (xs : List Int) : (xs.flatMap cellsI).length = xs.length * 1 := by rw [flatI_mapS]; simp
/-- An append, in a region that draws its order. -/
theorem oper_app {o : Oper} {a : Act} {w : World} {K : Act → World → Prop} {Q : Exit → Act → World → Prop} (s x : Operand) (ho : o.op = .call { callee := .builtin .append, args := #[s, x], argTypes := #[22, 22] })
    {n0 : Nat} {v1 v2 v3 v4 : Value} {l1 l2 l3 l4 : List Int} (hs : a.eval s = v1) (H : Own4 n0 w v1 v2 v3 v4 l1 l2 l3 l4) (ad : Addr) (m c : Nat) (ys : List Int) (hx : a.eval x = .slice (some ad) m c) (hl : ys.length = m)
    (hnews : ∀ j u, (ys.flatMap cellsI)[j]? = some u → w.cell? (ad.add j) = some u) (hb : l1.length + m ≤ 100000) (hn : n0 ≤ w.heap.size)
    (h : ∀ v' w', Beh n0 w v1 l1 ys v2 v3 v4 l2 l3 l4 v' w' → K (a.put o.dst v') w') : o.wp Try.prog a w K Q := by
  obtain ⟨i0, hi, hz0, hz1, hz2⟩ := info_parts Try.info_I
  obtain ⟨v', w', hr, h2, h3, h4, h5⟩ := run_append_own_at (P := Try.prog) w n0 22 o.type 3 i0 (.int .i64 0) 1 8 Try.underlying22 hi hz0 hz1 hz2 rfl (by decide) v1 l1.length (l1.flatMap cellsI) H.o1 ad m c (ys.flatMap cellsI) (by rw [flatI_len, hl]) hnews (flat_one oneI_cells ys) (by unfold maxLen; omega) (by omega) hn
  unfold Oper.wp execOp
  simp only [ho, resolve, invoke, builtin, Sem.run_bind, Sem.run_pure, Result.andThen_ok, List.map_toArray, List.map_cons, List.map_nil, hs, hx, hr]
  exact h v' w' ⟨H.grow (ownI_append hl h2) h3 h5, h3, fun g hg => (H.o1.lt g hg).1⟩
/-- An append, in a region that does not. -/
theorem list_app {ops : Array Oper} {rest : List Oper} {o : Oper} {a : Act} {w : World} {Q : Exit → Act → World → Prop} (hgd : o.guard = none) (s x : Operand) (ho : o.op = .call { callee := .builtin .append, args := #[s, x], argTypes := #[22, 22] })
    {n0 : Nat} {v1 v2 v3 v4 : Value} {l1 l2 l3 l4 : List Int} (hs : a.eval s = v1) (H : Own4 n0 w v1 v2 v3 v4 l1 l2 l3 l4) (ad : Addr) (m c : Nat) (ys : List Int) (hx : a.eval x = .slice (some ad) m c) (hl : ys.length = m)
    (hnews : ∀ j u, (ys.flatMap cellsI)[j]? = some u → w.cell? (ad.add j) = some u) (hb : l1.length + m ≤ 100000) (hn : n0 ≤ w.heap.size)
    (h : ∀ v' w', Beh n0 w v1 l1 ys v2 v3 v4 l2 l3 l4 v' w' → wpList Try.prog ops Q rest (a.put o.dst v') w') : wpList Try.prog ops Q (o :: rest) a w :=
  wpList_plain hgd fun K hK => oper_app s x ho hs H ad m c ys hx hl hnews hb hn (fun v' w' hB => hK _ _ (h v' w' hB))
theorem Beh.bl {n0 : Nat} {w0 w w' : World} {v1 v2 v3 v4 v' : Value} {l1 l2 l3 l4 ys : List Int} (h : Beh n0 w v1 l1 ys v2 v3 v4 l2 l3 l4 v' w') (hb : Bl w0 w) (hn : w0.heap.size ≤ n0) : Bl w0 w' :=
  Below.grown hb h.2.1 hb.size (fun k hk => by have := h.2.2 k hk; omega)
/-- A new number's block, behind an append. -/
theorem Beh.cell {n0 : Nat} {u w w' : World} {v1 v2 v3 v4 v' : Value} {l1 l2 l3 l4 ys : List Int} (h : Beh n0 w v1 l1 ys v2 v3 v4 l2 l3 l4 v' w') (ho : OwnI n0 u v1 l1) {b : Nat} (hb : u.heap.size ≤ b) (hb2 : b < w.heap.size) (off : Nat) : w'.cell? ⟨b, off, none⟩ = w.cell? ⟨b, off, none⟩ :=
  World.cell?_of_block (a := ⟨b, off, none⟩) (h.2.1.block b hb2 (fun e => by have := (ho.lt b e.symm).2; omega))
theorem oneI_at {w : World} {b : Nat} {x : Int} (h : w.cell? ⟨b, 0, none⟩ = some (.int .i64 x)) : ∀ j u, ([x].flatMap cellsI)[j]? = some u → w.cell? ((⟨b, 0, none⟩ : Addr).add j) = some u := by
  intro j u hu
  rcases j with _ | j
  · simp [cellsI] at hu
    subst hu
    simpa [Addr.add] using h
  · simp [cellsI] at hu
theorem new1_cell (w : World) (x : Int) (t : TypeId) : (w.alloc (.cells #[.int .i64 x] t)).cell? ⟨w.heap.size, 0, none⟩ = some (.int .i64 x) := by simp [go_sem]
/-- mat's Beside, of what is too wide. -/
theorem mBesideF_wide (R C : Nat) (p : Option Addr) (n cap : Nat) (q : Option Addr) (n2 cap2 : Nat) (w : World) (hfx : fitB R C n = true) (hfy : fitB R C n2 = true) (h : 16 < C + C) :
    Calls Try.prog 24 #[mV R C p n cap, mV R C q n2 cap2] w fun e w' => e = .returned (.tuple #[mV 0 0 none 0 0, .bool false]) ∧ Bl w w' := by
  obtain ⟨W, hW⟩ : ∃ W, W = ((w.alloc (.cells #[.int .i64 R, .int .i64 C, .slice p n cap] 27)).alloc (.cells #[.int .i64 R, .int .i64 C, .slice q n2 cap2] 27)).alloc (.cells #[.int .i64 0, .int .i64 0, .slice none 0 0] 27) := ⟨_, rfl⟩
  have b0 : Bl w W := by rw [hW]; exact (((Bl.refl _).alloc _).alloc _).alloc _
  have mx0 : MBox W w.heap.size R C p n cap := by rw [hW]; exact ((MBox.new w _ _ _ _ _ _).later ((Bl.refl _).alloc _)).later ((Bl.refl _).alloc _)
  have my0 : MBox W (w.heap.size + 1) R C q n2 cap2 := by rw [hW]; have := (MBox.new (w.alloc (.cells #[.int .i64 R, .int .i64 C, .slice p n cap] 27)) R C q n2 cap2 27).later ((Bl.refl _).alloc (.cells #[.int .i64 0, .int .i64 0, .slice none 0 0] 27)); rw [World.size_alloc] at this; exact this
  have mz0 : MBox W (w.heap.size + 1 + 1) 0 0 none 0 0 := by rw [hW]; have := MBox.new ((w.alloc (.cells #[.int .i64 R, .int .i64 C, .slice p n cap] 27)).alloc (.cells #[.int .i64 R, .int .i64 C, .slice q n2 cap2] 27)) 0 0 none 0 0 27; rw [World.size_alloc, World.size_alloc] at this; exact this
  obtain ⟨R1, C1, hR', hC', hd, hnn⟩ := fitB_nat hfx
  have hC16 : C ≤ 16 := by have := hd.c2; omega
  have hsd : sideB ((C : Int) + (C : Int)) = false := decide_eq_false (by omega)
  have HW := hideP hW
  clear hW hd hR' hC' hnn
  go_enter Try.func24, Try.ntmps24
  go_wp2_with fail
  rw [← HW.out]
  refine (mRightF _ _ _ _ _ _).mono ?_
  rintro e w1 ⟨rfl, h1⟩
  rw [hfx]
  obtain ⟨d0, d1, d2, u0, u1, u2, ltm⟩ := my0.later h1
  go_wp2_with fail
  refine (mRightF _ _ _ _ _ _).mono ?_
  rintro e w2 ⟨rfl, h2⟩
  rw [hfy]
  clear d0 d1 d2 u0 u1 u2 ltm
  obtain ⟨d0, d1, d2, u0, u1, u2, ltm⟩ := my0.later (h1.trans h2)
  obtain ⟨a0, a1, a2, k0, k1, k2, lta⟩ := mx0.later (h1.trans h2)
  go_wp2_with fail
  refine (side_any _ _).mono ?_
  rintro e w3 ⟨rfl, hw3⟩
  replace hw3 := hw3.symm
  subst hw3
  rw [hsd]
  obtain ⟨c0, c1, c2, f0, f1, f2, lt⟩ := mz0.later (h1.trans h2)
  go_wp2
  simp [bodyPost, results, Try.results24, go_sem, c0, c1, c2]
  exact Bl.put3 (b0.trans (h1.trans h2)) (by omega) _ _ _
end Go.Proofs.Ytokbmbgiimbkpaa

/- Contracts of root's shares and taken, of fractions (layer 10). Written by genRo.py. -/
import Derived.Test.YtljmggemdkfbiaaGreatRoAF
import Derived.Test.YtljmggemdkfbiaaGreatRoBF
import Derived.Test.YtljmggemdkfbiaaGreatJoHF
import Derived.Test.YtljmggemdkfbiaaGreatRegR
namespace Go.Proofs.YtljmggemdkfbiaaGreat
open Go.RowKit Go.Shelf
set_option linter.unusedSimpArgs false
set_option linter.unusedVariables false
attribute [local go_sem] Oper.semAt_some

/-- Blocks are laid; or block ge has turned, and holds xs. -/
def RelOF (ge lo n : Nat) (xs : List Fr) (x y : World) : Prop := Bl x y ∨ (But (fun b => b = ge) x y ∧ RwZ 3 cellsF y lo (.slice (some ⟨ge, 0, none⟩) n n) xs)
theorem RelOF.but {ge lo n : Nat} {xs : List Fr} {x y : World} (h : RelOF ge lo n xs x y) : But (fun b => b = ge) x y := by
  rcases h with h | h
  · exact But.of_bl h
  · exact h.1
theorem RelOF.trans {ge lo n : Nat} {xs : List Fr} {x y z : World} (h : RelOF ge lo n xs x y) (k : RelOF ge lo n xs y z) : RelOF ge lo n xs x z := by
  rcases k with k | k
  · rcases h with h | h
    · exact .inl (h.trans k)
    · exact .inr ⟨h.1.trans (But.of_bl k), h.2.later k⟩
  · exact .inr ⟨h.but.trans k.1, k.2⟩
theorem RelOF.rwz {ge lo n : Nat} {xs : List Fr} {x y : World} (h : RelOF ge lo n xs x y) (k : RwZ 3 cellsF x lo (.slice (some ⟨ge, 0, none⟩) n n) xs) : RwZ 3 cellsF y lo (.slice (some ⟨ge, 0, none⟩) n n) xs := by
  rcases h with h | h
  · exact k.later h
  · exact h.2
theorem rq_butF {α : Type} {s : Nat} {c : α → List Value} {w w' : World} {v : Value} {xs : List α} {S : Nat → Prop} (h : Rq s c w v xs) (k : But S w w') (hs : ∀ g, v.ownBlock = some g → ¬ S g) : Rq s c w' v xs := by
  rcases h with h | ⟨b, o, cap, rfl, hc, hb, hx⟩
  · exact .inl h
  · exact .inr ⟨b, o, cap, rfl, hc, Nat.lt_of_lt_of_le hb k.size, fun j x hj i u hu => (k.cell _ _ hb (hs b rfl)).trans (hx j x hj i u hu)⟩
/-- The same numbers, copied into it once more. -/
theorem RwZ.againF {w : World} {lo g n cap : Nat} {xs : List Fr} (h : RwZ 3 cellsF w lo (.slice (some ⟨g, 0, none⟩) n cap) xs) :
    (∀ j, j < (xs.flatMap cellsF).length → (w.cell? ⟨g, 0 + j, none⟩).isSome = true) ∧ (∀ j, j < (xs.flatMap cellsF).length → w.frozen? ⟨g, 0 + j, none⟩ = false) := by
  obtain ⟨b, cap', e, hc, hlo, hb, hf, hx⟩ := h
  simp only [Value.slice.injEq, Option.some.injEq, Addr.mk.injEq] at e
  obtain ⟨⟨rfl, _⟩, _, _⟩ := e
  refine ⟨fun j hj => ?_, fun j _ => hf _⟩
  rw [flat_len cellsF_len] at hj
  have h1 : j / 3 < xs.length := (Nat.div_lt_iff_lt_mul (by decide)).2 hj
  have h2 := hx (j / 3) _ (List.getElem?_eq_getElem h1) (j % 3) _ (List.getElem?_eq_getElem (by rw [cellsF_len]; exact Nat.mod_lt _ (by decide)))
  rw [show 0 + j = j / 3 * 3 + j % 3 from by rw [Nat.zero_add, Nat.mul_comm]; exact (Nat.div_add_mod j 3).symm, h2]
  rfl
theorem RwZ.copy2F {w : World} {lo g n cap : Nat} {xs : List Fr} (h : RwZ 3 cellsF w lo (.slice (some ⟨g, 0, none⟩) n cap) xs) : RwZ 3 cellsF (w.setCells g 0 (xs.flatMap cellsF)) lo (.slice (some ⟨g, 0, none⟩) n cap) xs := by
  have H := RwZ.againF h
  obtain ⟨b, cap', e, hc, hlo, hb, hf, hx⟩ := h
  simp only [Value.slice.injEq, Option.some.injEq, Addr.mk.injEq] at e
  obtain ⟨⟨rfl, _⟩, rfl, rfl⟩ := e
  refine ⟨g, cap, rfl, hc, hlo, by rw [setCells_size]; exact hb, fun o => ?_, fun j x hj k u hu => ?_⟩
  · rw [World.frozen?_setCells]
    exact hf o
  · have hk : k < 3 := by have := (List.getElem?_eq_some_iff.1 hu).1; rwa [cellsF_len] at this
    have hjl := (List.getElem?_eq_some_iff.1 hj).1
    refine cell_set_some (o := 0) (fun j hj => by have := H.1 j hj; exact this) (Nat.zero_le _) (by rw [Nat.zero_add, flat_len cellsF_len]; have : (j + 1) * 3 ≤ xs.length * 3 := Nat.mul_le_mul_right _ hjl; omega) ?_
    rw [Nat.sub_zero, flat_get cellsF_len xs j k x hj hk]
    exact hu
theorem but_putObj9F {S : Nat → Prop} (W : World) {l : Nat} {o' : Obj} (h : S l) : But S W (W.putObj l o') := ⟨rfl, rfl, rfl, by simp [World.putObj], fun i _ hs => World.putObj_heap_other (by rintro rfl; exact hs h)⟩
theorem cell_lt9F {w : World} {b o : Nat} {v : Value} (h : w.cell? ⟨b, o, none⟩ = some v) : b < w.heap.size := by
  rcases Nat.lt_or_ge b w.heap.size with h1 | h1
  · exact h1
  · unfold World.cell? at h
    rw [show w.heap[b]? = none from Array.getElem?_eq_none h1] at h
    cases h
theorem box_blk9F {w w' : World} {b : Nat} {x : Fr} (h : FBox w b x) (e : w'.heap[b]? = w.heap[b]?) (hs : w.heap.size ≤ w'.heap.size) : FBox w' b x :=
  ⟨(World.cell?_of_block (a := ⟨b, 0, none⟩) e).trans h.c0, (World.cell?_of_block (a := ⟨b, 1, none⟩) e).trans h.c1, (World.cell?_of_block (a := ⟨b, 2, none⟩) e).trans h.c2, (World.frozen?_of_block (a := ⟨b, 0, none⟩) e).trans h.f0, (World.frozen?_of_block (a := ⟨b, 1, none⟩) e).trans h.f1, (World.frozen?_of_block (a := ⟨b, 2, none⟩) e).trans h.f2, Nat.lt_of_lt_of_le h.lt hs⟩
theorem keptB_butF {A C : World} {B : Nat} {p : Option Addr} {n cap : Nat} {f : Nat → Fr} {S : Nat → Prop} (h : KeptBF A B p n cap f) (k : But S A C) (hB : ¬ S B) (hp : ∀ b, (Value.slice p n cap).ownBlock = some b → ¬ S b) : KeptBF C B p n cap f :=
  ⟨(k.cell _ _ (cell_lt9F h.box) hB).trans h.box, h.row.but k hp⟩
theorem own_ne9F {X : World} {row : Option Nat} {b o : Nat} {v : Value} (hc : X.cell? ⟨b, o, none⟩ = some v) (hr : ∀ r, row = some r → ∃ o : Obj, X.heap[r]? = some o ∧ o.isCells = false) : row ≠ some b := by
  intro e
  obtain ⟨ob, ho, hoc⟩ := hr b e
  unfold World.cell? at hc
  simp only [ho] at hc
  cases ob <;> simp_all [Obj.isCells]
theorem own_blk9F {X Y : World} {row : Option Nat} {b o : Nat} {v : Value} (hc : X.cell? ⟨b, o, none⟩ = some v) (hg : X.grownBy Y row) (hr : ∀ r, row = some r → ∃ o : Obj, X.heap[r]? = some o ∧ o.isCells = false) : Y.heap[b]? = X.heap[b]? :=
  hg.block b (cell_lt9F hc) (fun e => own_ne9F hc hr e.symm)
/-- Between two rounds. -/
structure StIF (w : World) (n N g c1 ge H : Nat) (t : StO Fr) (U : World) : Prop where
  s : RwZ 3 cellsF U w.heap.size (.slice (some ⟨g, 0, none⟩) N c1) (mk n n t.s)
  e : RwZ 3 cellsF U w.heap.size (.slice (some ⟨ge, 0, none⟩) n n) (linJ n t.e)
  a : FBox U (w.heap.size + 1 + 1 + 1 + 1) t.a
  m : MBox U (w.heap.size + 1 + 1) n n (some ⟨g, 0, none⟩) N c1
  l : U.cell? ⟨w.heap.size + 1 + 1 + 1, 0, none⟩ = some (.slice (some ⟨ge, 0, none⟩) n n)
  lf : U.frozen? ⟨w.heap.size + 1 + 1 + 1, 0, none⟩ = false
  bl : Bl w U
  sz : H ≤ U.heap.size
theorem sti_ownF {w : World} {n N g c1 ge H : Nat} {t : StO Fr} {X Y : World} {row : Option Nat} (h : StIF w n N g c1 ge H t X) (n1 : 1 ≤ n) (hN : N = n * n) (hw : w.heap.size ≤ H) (hg : X.grownBy Y row) (hr : ∀ r, row = some r → H ≤ r ∧ ∃ o : Obj, X.heap[r]? = some o ∧ o.isCells = false) : StIF w n N g c1 ge H t Y := by
  have hr2 : ∀ r, row = some r → ∃ o : Obj, X.heap[r]? = some o ∧ o.isCells = false := fun r e => (hr r e).2
  have ne1 : mk n n t.s ≠ [] := fun e => by have := congrArg List.length e; rw [mk_len] at this; have h2 : 0 < n * n := Nat.mul_pos n1 n1; simp at this; omega
  have ne2 : linJ n t.e ≠ [] := fun e => by have := congrArg List.length e; rw [linJ_len] at this; simp at this; omega
  have e8 := own_blk9F h.a.c0 hg hr2
  have e6 := own_blk9F h.m.c0 hg hr2
  have e7 := own_blk9F h.l hg hr2
  exact ⟨h.s.own cellsF_len (by decide) ne1 hg hr2, h.e.own cellsF_len (by decide) ne2 hg hr2, box_blk9F h.a e8 hg.size, mbox_block h.m e6 hg.size, (World.cell?_of_block (a := ⟨_, 0, none⟩) e7).trans h.l, (World.frozen?_of_block (a := ⟨_, 0, none⟩) e7).trans h.lf, Below.grown h.bl hg h.bl.size (fun k e => Nat.le_trans hw (hr k e).1), Nat.le_trans h.sz hg.size⟩
theorem sti_laterF {w : World} {n N g c1 ge H : Nat} {t : StO Fr} {X Y : World} (h : StIF w n N g c1 ge H t X) (k : Bl X Y) : StIF w n N g c1 ge H t Y :=
  ⟨h.s.later k, h.e.later k, h.a.later k, h.m.later k, (bl_cell k _ _ (cell_lt9F h.l)).trans h.l, (bl_froz k _ _ (cell_lt9F h.l)).trans h.lf, h.bl.trans k, Nat.le_trans h.sz k.size⟩
/-- What taken tells, in the cells of its results. -/
structure GdOF (w : World) (n N g c1 ge : Nat) (a : Fr) (U : World) : Prop where
  m : MBox U (w.heap.size + 1 + 1) n n (some ⟨g, 0, none⟩) N c1
  l : U.cell? ⟨w.heap.size + 1 + 1 + 1, 0, none⟩ = some (.slice (some ⟨ge, 0, none⟩) n n)
  lf : U.frozen? ⟨w.heap.size + 1 + 1 + 1, 0, none⟩ = false
  a : FBox U (w.heap.size + 1 + 1 + 1 + 1) a
def RelGF (w : World) (n N g c1 ge : Nat) (a : Fr) (x y : World) : Prop := But (fun b => b = w.heap.size + 1 + 1 ∨ b = w.heap.size + 1 + 1 + 1 ∨ b = w.heap.size + 1 + 1 + 1 + 1) x y ∧ (GdOF w n N g c1 ge a x → GdOF w n N g c1 ge a y)
theorem RelGF.refl {w : World} {n N g c1 ge : Nat} {a : Fr} (x : World) : RelGF w n N g c1 ge a x x := ⟨But.refl _ _, id⟩
theorem gd_laterF {w : World} {n N g c1 ge : Nat} {a : Fr} {x y : World} (h : GdOF w n N g c1 ge a x) (k : Bl x y) : GdOF w n N g c1 ge a y := ⟨h.m.later k, (bl_cell k _ _ (cell_lt9F h.l)).trans h.l, (bl_froz k _ _ (cell_lt9F h.l)).trans h.lf, h.a.later k⟩
theorem RelGF.refl0 {w : World} {n N g c1 ge : Nat} {a : Fr} (x : World) : RelGF w n N g c1 ge a x x.drew := ⟨But.of_bl (Bl.refl _).drew, fun h => gd_laterF h (Bl.refl _).drew⟩
theorem RelGF.trans {w : World} {n N g c1 ge : Nat} {a : Fr} {x y z : World} (h : RelGF w n N g c1 ge a x y) (k : RelGF w n N g c1 ge a y z) : RelGF w n N g c1 ge a x z := ⟨h.1.trans k.1, fun q => k.2 (h.2 q)⟩
theorem RelGF.m {w : World} {n N g c1 ge : Nat} {a : Fr} (u : World) : RelGF w n N g c1 ge a u (((u.setCell ⟨w.heap.size + 1 + 1, 0, none⟩ (.int .i64 n)).setCell ⟨w.heap.size + 1 + 1, 1, none⟩ (.int .i64 n)).setCell ⟨w.heap.size + 1 + 1, 2, none⟩ (.slice (some ⟨g, 0, none⟩) N c1)) := by
  have b : But (fun i => i = w.heap.size + 1 + 1) u (((u.setCell ⟨w.heap.size + 1 + 1, 0, none⟩ (.int .i64 n)).setCell ⟨w.heap.size + 1 + 1, 1, none⟩ (.int .i64 n)).setCell ⟨w.heap.size + 1 + 1, 2, none⟩ (.slice (some ⟨g, 0, none⟩) N c1)) := ((but_cell1 (S := fun i => i = w.heap.size + 1 + 1) rfl _ _ _).trans (but_cell1 (S := fun i => i = w.heap.size + 1 + 1) rfl _ _ _)).trans (but_cell1 (S := fun i => i = w.heap.size + 1 + 1) rfl _ _ _)
  exact ⟨b.mono fun i h => .inl h, fun h => ⟨h.m.fill _ _ _ _ _, (b.cell _ _ (cell_lt9F h.l) (by show ¬ w.heap.size + 1 + 1 + 1 = w.heap.size + 1 + 1; omega)).trans h.l, (b.froz _ _ (cell_lt9F h.l) (by show ¬ w.heap.size + 1 + 1 + 1 = w.heap.size + 1 + 1; omega)).trans h.lf, h.a.but b (by show ¬ w.heap.size + 1 + 1 + 1 + 1 = w.heap.size + 1 + 1; omega)⟩⟩
theorem RelGF.l {w : World} {n N g c1 ge : Nat} {a : Fr} (u : World) : RelGF w n N g c1 ge a u (u.setCell ⟨w.heap.size + 1 + 1 + 1, 0, none⟩ (.slice (some ⟨ge, 0, none⟩) n n)) := by
  have b : But (fun i => i = w.heap.size + 1 + 1 + 1) u (u.setCell ⟨w.heap.size + 1 + 1 + 1, 0, none⟩ (.slice (some ⟨ge, 0, none⟩) n n)) := but_cell1 (S := fun i => i = w.heap.size + 1 + 1 + 1) rfl _ _ _
  exact ⟨b.mono fun i h => .inr (.inl h), fun h => ⟨h.m.but b (by show ¬ w.heap.size + 1 + 1 = w.heap.size + 1 + 1 + 1; omega), by have := h.l; simp [go_sem, this], by have := h.lf; simp [go_sem, this], h.a.but b (by show ¬ w.heap.size + 1 + 1 + 1 + 1 = w.heap.size + 1 + 1 + 1; omega)⟩⟩
theorem RelGF.a {w : World} {n N g c1 ge : Nat} {a : Fr} (u : World) : RelGF w n N g c1 ge a u (((u.setCell ⟨w.heap.size + 1 + 1 + 1 + 1, 0, none⟩ (.int .i64 a.n)).setCell ⟨w.heap.size + 1 + 1 + 1 + 1, 1, none⟩ (.int .i64 a.d)).setCell ⟨w.heap.size + 1 + 1 + 1 + 1, 2, none⟩ (.bool a.bad)) := by
  have b : But (fun i => i = w.heap.size + 1 + 1 + 1 + 1) u (((u.setCell ⟨w.heap.size + 1 + 1 + 1 + 1, 0, none⟩ (.int .i64 a.n)).setCell ⟨w.heap.size + 1 + 1 + 1 + 1, 1, none⟩ (.int .i64 a.d)).setCell ⟨w.heap.size + 1 + 1 + 1 + 1, 2, none⟩ (.bool a.bad)) := butRF _ _ _ _ _
  exact ⟨b.mono fun i h => .inr (.inr h), fun h => ⟨h.m.but b (by show ¬ w.heap.size + 1 + 1 = w.heap.size + 1 + 1 + 1 + 1; omega), (b.cell _ _ (cell_lt9F h.l) (by show ¬ w.heap.size + 1 + 1 + 1 = w.heap.size + 1 + 1 + 1 + 1; omega)).trans h.l, (b.froz _ _ (cell_lt9F h.l) (by show ¬ w.heap.size + 1 + 1 + 1 = w.heap.size + 1 + 1 + 1 + 1; omega)).trans h.lf, h.a.fill a⟩⟩
theorem oneF (x : Fr) : ∀ v ∈ cellsF x, v.oneCell' = true := by
  intro v hv
  simp [cellsF] at hv
  rcases hv with rfl | rfl | rfl <;> rfl
theorem make_zeroOF (n : Nat) (hn : n ≤ 1000) (u : World) : ∃ u', (Instr.makeSlice 22 (.int .i64 n) (.int .i64 n)).run Tryz.prog u = .ok (.slice (some ⟨u.heap.size, 0, none⟩) n n) u' ∧ Rq 1 cI u' (.slice (some ⟨u.heap.size, 0, none⟩) n n) (linJ n fun _ => (0 : Int)) ∧ Bl u u' := by
  obtain ⟨i0, hi, hz0, hz1, hz2⟩ := info_parts (show (Tryz.prog.info? 3).map (fun i => (i.zero, i.size, i.bytes)) = some (some (.int .i64 0), 1, 8) by kernel_rfl)
  obtain ⟨u', h1, h2, h3⟩ := run_makeSlice_full (P := Tryz.prog) (w := u) u.heap.size 22 3 i0 (.int .i64 0) 1 (by kernel_rfl) hi hz0 hz1 .i64 .i64 n (by omega) (by rw [hz2]; omega) (by unfold maxLen; omega) (Nat.le_refl _)
  refine ⟨u', h1, ?_, (Bl.refl u).grown h3 (Nat.le_refl _) (fun k e => by cases e)⟩
  have e : (madeCells (Value.cells (.int .i64 0)) (n * 1)).toList = (linJ n fun _ => (0 : Int)).flatMap cI := by
    rw [show (linJ n fun _ => (0 : Int)).flatMap cI = (linJ n fun _ => (0 : Int)).map (fun x => (.int .i64 x : Value)) from flatI_map _, Nat.mul_one]
    rw [show (linJ n fun _ => (0 : Int)) = List.replicate n 0 from by unfold linJ; rw [List.map_const']; simp, List.map_replicate]
    exact toList_madeCells_one _ _
  rw [e] at h2
  have h4 := Rw.of_own (s := 1) (c := cI) (fun _ => rfl) (xs := linJ n fun _ => (0 : Int)) (by rw [linJ_len]; exact h2)
  exact h4.q
theorem whole_linOF (p : Option Addr) (n cap : Nat) (h : Nat → Int) (w : World) (hr : Rq 1 cI w (.slice p n cap) (linJ n h)) (hl : n ≤ 1000000) :
    Calls Tryz.prog 16 #[.slice p n cap] w fun e w' => ∃ q c, e = .returned (.slice q n c) ∧ Rw 3 cellsF w' (.slice q n c) (linJ n fun i => wholeF (h i)) ∧ Fresh w.heap.size (.slice q n c) ∧ Bl w w' :=
  (vWholeF' _ _ w hr (by rw [linJ_len]; exact hl)).mono fun e w' ⟨u, he, hr, hf, hb⟩ => by
    rw [linJ_map] at hr
    obtain ⟨q, c, rfl, _, _⟩ := hr.cut
    rw [linJ_len] at hr hf he
    exact ⟨q, c, he, hr, hf, hb⟩
theorem rq_cells0F {w : World} {p : Option Addr} {n cap : Nat} {f : Nat → Fr} (h : Rq 3 cellsF w (.slice p n cap) (linJ n f)) (h1 : 1 ≤ n) : ∃ b o, p = some ⟨b, o, none⟩ ∧ ∀ j v, ((linJ n f).flatMap cellsF)[j]? = some v → w.cell? ((⟨b, o, none⟩ : Addr).add j) = some v := by
  rcases h with ⟨p', cap', e, hx, _⟩ | ⟨b, o, cap', e, hc, hb, hx⟩
  · have := congrArg List.length hx
    rw [linJ_len] at this
    simp at this
    omega
  · simp only [Value.slice.injEq] at e
    refine ⟨b, o, e.1, fun j v hj => ?_⟩
    have hjl : j < n * 3 := by have := (List.getElem?_eq_some_iff.1 hj).1; rwa [flat_len cellsF_len, linJ_len] at this
    have h1 : j / 3 < n := (Nat.div_lt_iff_lt_mul (by decide)).2 hjl
    have h3 : j % 3 < 3 := Nat.mod_lt _ (by decide)
    have e2 : j = j / 3 * 3 + j % 3 := by rw [Nat.mul_comm]; exact (Nat.div_add_mod j 3).symm
    rw [e2, flat_get cellsF_len _ _ _ _ (linJ_get f h1) h3] at hj
    rw [add_off _ _ rfl]
    have := hx _ _ (linJ_get f h1) _ _ hj
    show w.cell? ⟨b, o + j, none⟩ = some v
    rw [e2, ← Nat.add_assoc]
    exact this
set_option maxRecDepth 100000 in
set_option maxHeartbeats 8000000 in
theorem rTakenF (n N : Nat) (p : Option Addr) (cap : Nat) (s : Nat → Nat → Fr) (ph : Option Addr) (ch : Nat) (h : Nat → Fr) (r : Fr) (w : World) (hS : Mx 3 cellsF w n n p N cap s) (hh : Rq 3 cellsF w (.slice ph n ch) (linJ n h)) :
    Calls Tryz.prog 67 #[mV n n p N cap, .slice ph n ch, frV r] w fun e w' => ∃ g c ge ce, e = .returned (.tuple #[mV n n (some ⟨g, 0, none⟩) N c, .slice (some ⟨ge, 0, none⟩) n ce, frV (runO kdF n s h r n).a]) ∧ (RwZ 3 cellsF w' w.heap.size (.slice (some ⟨g, 0, none⟩) N c) (mk n n (runO kdF n s h r n).s) ∧ RwZ 3 cellsF w' w.heap.size (.slice (some ⟨ge, 0, none⟩) n ce) (linJ n (runO kdF n s h r n).e)) ∧ Bl w w' := by
  have fm : Tryz.prog.follows .mixedOrders = true := by kernel_rfl
  have egW := enters_of Tryz.func16 (by kernel_rfl) rfl
  obtain ⟨i0, hi, hz0, hz1, hz2⟩ := info_parts Tryz.info_F
  refine (callsIn_wide (n := 8)).1 ?_
  have hd := hS.1
  have hN := hS.2.1
  have hfit := hS.fit
  have hn16 := hd.r2
  have n1 := hd.r1
  have HSM := hideP hS
  have HHM := hideP hh
  obtain ⟨W, hW⟩ : ∃ W, W = ((((w.alloc (.cells #[.int .i64 n, .int .i64 n, .slice p N cap] 30)).alloc (.cells #[.int .i64 r.n, .int .i64 r.d, .bool r.bad] 34)).alloc (.cells #[.int .i64 0, .int .i64 0, .slice none 0 0] 30)).alloc (.cells #[.slice none 0 0] 28)).alloc (.cells #[.int .i64 0, .int .i64 0, .bool false] 34) := ⟨_, rfl⟩
  have b0 : Bl w W := by rw [hW]; exact (((((Bl.refl _).alloc _).alloc _).alloc _).alloc _).alloc _
  have hWs : W.heap.size = w.heap.size + 1 + 1 + 1 + 1 + 1 := by rw [hW]; simp
  have m0 : MBox W w.heap.size n n p N cap := by rw [hW]; exact (MBox.new w _ _ _ _ _ _).later (((((Bl.refl _).alloc _).alloc _).alloc _).alloc _)
  have kr : FBox W (w.heap.size + 1) r := by rw [hW]; have := (FBox.new (w.alloc (.cells #[.int .i64 n, .int .i64 n, .slice p N cap] 30)) r 34).later ((((Bl.refl _).alloc (.cells #[.int .i64 0, .int .i64 0, .slice none 0 0] 30)).alloc (.cells #[.slice none 0 0] 28)).alloc (.cells #[.int .i64 0, .int .i64 0, .bool false] 34)); simp only [World.size_alloc] at this; exact this
  have z6 : MBox W (w.heap.size + 1 + 1) 0 0 none 0 0 := by rw [hW]; have := (MBox.new ((w.alloc (.cells #[.int .i64 n, .int .i64 n, .slice p N cap] 30)).alloc (.cells #[.int .i64 r.n, .int .i64 r.d, .bool r.bad] 34)) 0 0 none 0 0 30).later (((Bl.refl _).alloc (.cells #[.slice none 0 0] 28)).alloc (.cells #[.int .i64 0, .int .i64 0, .bool false] 34)); simp only [World.size_alloc] at this; exact this
  have s7 : W.cell? ⟨w.heap.size + 1 + 1 + 1, 0, none⟩ = some (.slice none 0 0) := by rw [hW]; simp [go_sem]
  have f7 : W.frozen? ⟨w.heap.size + 1 + 1 + 1, 0, none⟩ = false := by rw [hW]; simp [go_sem]
  have k8 : FBox W (w.heap.size + 1 + 1 + 1 + 1) zeroR := by rw [hW]; have := (FBox.new ((((w.alloc (.cells #[.int .i64 n, .int .i64 n, .slice p N cap] 30)).alloc (.cells #[.int .i64 r.n, .int .i64 r.d, .bool r.bad] 34)).alloc (.cells #[.int .i64 0, .int .i64 0, .slice none 0 0] 30)).alloc (.cells #[.slice none 0 0] 28)) zeroR 34); simp only [World.size_alloc] at this; exact this
  have NW := hideP (mNewZF (n : Int) (n : Int) p N cap (mk n n s) W (hS.2.2.later b0) hfit (by rw [mk_len, hN]))
  have HW := hideP hW
  have HNN := hideP hN
  clear hW hS hh hN
  refine callsIn_of_wp_marks Tryz.func67 rfl trivial ?_ rfl
  refine wpIn_wide.2 ?_
  simp only [Tryz.ntmps67, List.size_toArray, List.length_cons, List.length_nil, Nat.reduceAdd, Nat.reduceSub, Array.replicate_succ, Array.replicate_zero, List.push_toArray, List.append_toArray, List.nil_append, List.cons_append]
  obtain ⟨c0, c1, c2, _, _, _, _⟩ := id m0
  rw [HW.out] at c0 c1 c2
  go_wp2_with fail
  try simp only [World.size_alloc]
  rw [← HW.out]
  refine NW.out.mono ?_
  rintro e w1 ⟨p1, c1', rfl, hZ, h1⟩
  clear c0 c1 c2 NW
  obtain ⟨g, cg, eg, hcg, hlog, hgl, _, _⟩ := id hZ
  simp only [Value.slice.injEq] at eg
  obtain ⟨rfl, e2, e3⟩ := eg
  clear e2 e3 hcg
  obtain ⟨W1, hW1⟩ : ∃ W1, W1 = ((w1.setCell ⟨w.heap.size + 1 + 1, 0, none⟩ (.int .i64 n)).setCell ⟨w.heap.size + 1 + 1, 1, none⟩ (.int .i64 n)).setCell ⟨w.heap.size + 1 + 1, 2, none⟩ (.slice (some ⟨g, 0, none⟩) N c1') := ⟨_, rfl⟩
  have bu1 : But (fun b => b = w.heap.size + 1 + 1) w1 W1 := by rw [hW1]; exact ((but_cell1 (S := fun i => i = w.heap.size + 1 + 1) rfl _ _ _).trans (but_cell1 (S := fun i => i = w.heap.size + 1 + 1) rfl _ _ _)).trans (but_cell1 (S := fun i => i = w.heap.size + 1 + 1) rfl _ _ _)
  have B1 : Bl w W1 := by rw [hW1]; exact Bl.put3 (b0.trans h1) (by omega) _ _ _
  have z61 : MBox W1 (w.heap.size + 1 + 1) n n (some ⟨g, 0, none⟩) N c1' := by rw [hW1]; exact (z6.later h1).fill _ _ _ _ _
  have m1 : MBox W1 w.heap.size n n p N cap := (m0.later h1).but bu1 (by omega)
  have kr1 : FBox W1 (w.heap.size + 1) r := (kr.later h1).but bu1 (by omega)
  have k81 : FBox W1 (w.heap.size + 1 + 1 + 1 + 1) zeroR := (k8.later h1).but bu1 (by omega)
  have s71 : W1.cell? ⟨w.heap.size + 1 + 1 + 1, 0, none⟩ = some (.slice none 0 0) := (bu1.cell _ _ (by have := h1.size; omega) (by omega)).trans ((bl_cell h1 _ _ (by omega)).trans s7)
  have f71 : W1.frozen? ⟨w.heap.size + 1 + 1 + 1, 0, none⟩ = false := (bu1.froz _ _ (by have := h1.size; omega) (by omega)).trans ((bl_froz h1 _ _ (by omega)).trans f7)
  have HZ1 := hideP (hZ.but bu1 (fun b hb => by cases hb; show ¬ g = w.heap.size + 1 + 1; omega))
  have g1l : g < W1.heap.size := HZ1.out.glt
  have w1s : w.heap.size + 1 + 1 + 1 + 1 + 1 ≤ W1.heap.size := by have := h1.size; have := bu1.size; omega
  obtain ⟨q0, q1, q2, q3, q4, q5, _⟩ := z6.later h1
  obtain ⟨c0, c1, c2, _, _, _, _⟩ := id m1
  have HW1 := hideP hW1
  rw [hW1] at c0 c1 c2
  clear hW1 hZ m0 kr z6 s7 f7 k8
  go_wp2_with fail
  rw [← HW1.out]
  refine (mTurnF n n p N cap s W1 (HSM.out.later B1)).mono ?_
  rintro e w2 ⟨p2, c2', rfl, ⟨hT, _, _⟩, h2⟩
  clear q0 q1 q2 q3 q4 q5 c0 c1 c2
  go_wp2_with fail
  refine (mApplyF' n n p2 N c2' (fun i k => s k i) ph ch (linJ n h) w2 hT (HHM.out.later (B1.trans h2)) (linJ_len _ _)).mono ?_
  rintro e w3 ⟨pw, cw, rfl, hRw, hFw, h3⟩
  have HRW := hideP (show Rw 3 cellsF w3 (.slice pw n cw) (linJ n (wO kdF n s h)) from hRw)
  have b13 : Bl W1 w3 := h2.trans h3
  clear hT hRw
  have s73 := (bl_cell b13 _ 0 (by omega)).trans s71
  have f73 := (bl_froz b13 _ 0 (by omega)).trans f71
  have hse : w.heap.size + 1 + 1 + 1 < w3.heap.size := by have := b13.size; omega
  go_wp2_with (at_make; refine wpList_make_full _ rfl _ _ 28 rfl w3.heap.size 34 i0 (.agg #[.int .i64 0, .int .i64 0, .bool false]) 3 Tryz.underlying28 hi hz0 hz1 .i64 .i64 _ _ n rfl rfl (by simp) (by simp) (by rw [hz2]; omega) (by unfold maxLen; omega) (by simp) ?_; intro w4 hown4 hgrow4; have s74 := (bl_cell ((Bl.refl w3).grown hgrow4 (Nat.le_refl _) (fun k e => by cases e)) _ 0 hse).trans s73; have f74 := (bl_froz ((Bl.refl w3).grown hgrow4 (Nat.le_refl _) (fun k e => by cases e)) _ 0 hse).trans f73)
  obtain ⟨ge, hge⟩ : ∃ ge, ge = w3.heap.size := ⟨_, rfl⟩
  have b34 : Bl w3 w4 := (Bl.refl w3).grown hgrow4 (Nat.le_refl _) (fun k e => by cases e)
  obtain ⟨W4, hW4⟩ : ∃ W4, W4 = w4.setCell ⟨w.heap.size + 1 + 1 + 1, 0, none⟩ (.slice (some ⟨w3.heap.size, 0, none⟩) n n) := ⟨_, rfl⟩
  have bu4 : But (fun b => b = w.heap.size + 1 + 1 + 1) w4 W4 := by rw [hW4]; exact but_cell1 (S := fun i => i = w.heap.size + 1 + 1 + 1) rfl _ _ _
  have own4 := ownsRow_setCell_below hown4 (a := ⟨w.heap.size + 1 + 1 + 1, 0, none⟩) hse (.slice (some ⟨w3.heap.size, 0, none⟩) n n)
  rw [← hW4, ← hge] at own4
  have s7w : W4.cell? ⟨w.heap.size + 1 + 1 + 1, 0, none⟩ = some (.slice (some ⟨ge, 0, none⟩) n n) := by rw [hW4, hge]; simp [go_sem, s74]
  have HW4 := hideP hW4
  have geW : ge < W4.heap.size := (own4.lt ge rfl).2
  have OWN4 := hideP own4
  clear hW4 s74 f74 own4 hown4
  have w4s : W4.heap.size = w4.heap.size := by rw [HW4.out]; simp
  have bw34 : w3.heap.size ≤ w4.heap.size := b34.size
  have HRW4 := hideP ((HRW.out.later b34).but bu4 (fun b hb => by have := hFw b hb; have := h2.size; show ¬ b = w.heap.size + 1 + 1 + 1; omega))
  have gwn : ∀ b, (Value.slice pw n cw).ownBlock = some b → b ≠ ge ∧ b ≠ g ∧ w.heap.size + 1 + 1 + 1 + 1 < b := fun b hb => by
    have h5 := hFw b hb
    have h6 := HRW.out.lt b hb
    have h7 := h2.size
    exact ⟨by omega, by omega, by omega⟩
  have HZ4 := hideP (((HZ1.out.later b13).later b34).but bu4 (fun b hb => by cases hb; show ¬ g = w.heap.size + 1 + 1 + 1; omega))
  have b14 : Bl W1 w4 := b13.trans b34
  have z64 : MBox W4 (w.heap.size + 1 + 1) n n (some ⟨g, 0, none⟩) N c1' := (z61.later b14).but bu4 (by omega)
  have kr4 : FBox W4 (w.heap.size + 1) r := (kr1.later b14).but bu4 (by omega)
  have k84 : FBox W4 (w.heap.size + 1 + 1 + 1 + 1) zeroR := (k81.later b14).but bu4 (by omega)
  have f7w : W4.frozen? ⟨w.heap.size + 1 + 1 + 1, 0, none⟩ = false := by rw [HW4.out]; simp [go_sem]; exact (bl_froz b34 _ 0 hse).trans f73
  have B4 : Bl w W4 := by rw [HW4.out]; exact Bl.set ((B1.trans b14)) (by show w.heap.size ≤ w.heap.size + 1 + 1 + 1; omega) _
  have g5 : g < ge := by have := b13.size; omega
  have ge5 : w.heap.size + 1 + 1 + 1 + 1 + 1 ≤ ge := by have := b13.size; omega
  have gge : g ≠ ge := by omega
  have SEVEN := fun (u : World) (hu : RelOF ge w3.heap.size n (linJ n fun _ => wholeF 0) W4 u) => (hu.but.cell (w.heap.size + 1 + 1 + 1) 0 (by omega) (by omega)).trans s7w
  have GEU := fun (u : World) (hu : RelOF ge w3.heap.size n (linJ n fun _ => wholeF 0) W4 u) => Nat.lt_of_lt_of_le geW hu.but.size
  have FL : ((linJ n fun _ => wholeF 0).flatMap cellsF).length = n * 3 := by rw [flat_len cellsF_len, linJ_len]
  have ONEC : ∀ v ∈ (linJ n fun _ => wholeF 0).flatMap cellsF, v.oneCell' = true := fun v hv => by
    obtain ⟨x, _, hx⟩ := List.mem_flatMap.1 hv
    exact oneF x v hx
  have CANZ : ∀ u (hu : RelOF ge w3.heap.size n (linJ n fun _ => wholeF 0) W4 u), (∀ j, j < ((linJ n fun _ => wholeF 0).flatMap cellsF).length → (u.cell? ⟨ge, 0 + j, none⟩).isSome = true) ∧ (∀ j, j < ((linJ n fun _ => wholeF 0).flatMap cellsF).length → u.frozen? ⟨ge, 0 + j, none⟩ = false) ∧ RwZ 3 cellsF (u.setCells ge 0 ((linJ n fun _ => wholeF 0).flatMap cellsF)) w3.heap.size (.slice (some ⟨ge, 0, none⟩) n n) (linJ n fun _ => wholeF 0) := fun u hu => by
    rcases hu with hb | ⟨_, hz⟩
    · have H := RwZ.copy cellsF_len (own_blF OWN4.out hb) (xs := linJ n fun _ => wholeF 0) (linJ_len _ _) n1
      rw [Nat.zero_mul] at H
      exact ⟨H.2.1, fun j _ => H.2.2 j, H.1.base (by omega)⟩
    · have H := RwZ.againF hz
      exact ⟨H.1, H.2, RwZ.copy2F hz⟩
  clear s71 f71 s73 f73 hi hz0 hz1 hz2
  rw [← HW4.out, ← hge]
  have HGE := hideP hge
  clear hge
  refine (wpIn_wide (n := 8)).1 (region_r fm (RelOF ge w3.heap.size n (linJ n fun _ => wholeF 0)) [some 33, some 34, some 35, some 36, some 37, some 38] (by kernel_rfl) (by rfl) (.inl (Bl.refl _).drew) (fun h k => h.trans k)
    (fun j v u => match j with | 0 => v = .slice (some ⟨ge, 0, none⟩) n n | 1 => v = .slice ph n ch | 2 => v = .int .i64 n | 3 => ∃ g', v = .slice (some ⟨g', 0, none⟩) n n ∧ Rq 1 cI u (.slice (some ⟨g', 0, none⟩) n n) (linJ n fun _ => (0 : Int)) ∧ g' ≠ ge | 4 => ∃ q c, v = .slice q n c ∧ Rw 3 cellsF u (.slice q n c) (linJ n fun _ => wholeF 0) ∧ ∀ g', (Value.slice q n c).ownBlock = some g' → g' ≠ ge | 5 => v = .int .i64 n ∧ RwZ 3 cellsF u w3.heap.size (.slice (some ⟨ge, 0, none⟩) n n) (linJ n fun _ => wholeF 0) | _ => False)
    (by
      intro j v u u' hR0 hb h
      split at h <;> first | exact h | (obtain ⟨g', e, h1, h2⟩ := h; exact ⟨g', e, rq_butF h1 hb.but (fun g hg => by cases hg; exact h2), h2⟩) | (obtain ⟨q, c, e, h1, h2⟩ := h; exact ⟨q, c, e, h1.but hb.but h2, h2⟩) | exact ⟨h.1, hb.rwz h.2⟩) ?step ?fin)
  case step =>
    intro j o act u ho hsz hu hfr hin hnon
    have hj : j < 6 := (Array.getElem?_eq_some_iff.1 ho).1
    have s7' := SEVEN u hu
    have hgeu : ge < u.heap.size := GEU u hu
    rcases (by omega : j = 0 ∨ j = 1 ∨ j = 2 ∨ j = 3 ∨ j = 4 ∨ j = 5) with rfl | rfl | rfl | rfl | rfl | rfl
    · simp only [List.getElem?_toArray, List.getElem?_cons_zero, List.getElem?_cons_succ, Option.some.injEq] at ho
      subst ho
      have i7 : act.eval (.tmp (7 : Nat)) = .pointer (some ⟨w.heap.size + 1 + 1 + 1, 0, none⟩) := hfr 7 (by decide)
      exact plain_wp (by intro c h; cases h) (fun _ _ => trivial) (by simp only [execOp, i7, evalC, evalF, evalG]; simp [go_sem, s7']) ⟨_, rfl, rfl, .inl (Bl.refl _)⟩
    · simp only [List.getElem?_toArray, List.getElem?_cons_zero, List.getElem?_cons_succ, Option.some.injEq] at ho
      subst ho
      have i1 : act.eval (.tmp (1 : Nat)) = .slice ph n ch := hfr 1 (by decide)
      exact plain_wp (by intro c h; cases h) (fun _ _ => trivial) (by simp only [execOp, i1, evalC, evalF, evalG]; simp [go_sem, hn16]) ⟨_, rfl, rfl, .inl (Bl.refl _)⟩
    · simp only [List.getElem?_toArray, List.getElem?_cons_zero, List.getElem?_cons_succ, Option.some.injEq] at ho
      subst ho
      have i34 : (act.eval (.tmp (34 : Nat))) = .slice ph n ch := hin ⟨1, .data⟩ (by simp) rfl 34 rfl
      exact plain_wp (by intro c h; cases h) (fun _ _ => trivial) (by simp only [execOp, resolve, List.map_toArray, List.map_cons, List.map_nil, i34]; simp [invoke, builtin, Builtin.len_, Builtin.lenOf, Result.andThen, go_sem]) ⟨_, rfl, rfl, .inl (Bl.refl _)⟩
    · simp only [List.getElem?_toArray, List.getElem?_cons_zero, List.getElem?_cons_succ, Option.some.injEq] at ho
      subst ho
      have i35 : (act.eval (.tmp (35 : Nat))) = .int .i64 n := hin ⟨2, .data⟩ (by simp) rfl 35 rfl
      obtain ⟨u', hr, hq, hb⟩ := make_zeroOF n (by omega) u
      exact plain_wp (by intro c h; cases h) (fun _ _ => trivial) (w' := u') (v := .slice (some ⟨u.heap.size, 0, none⟩) n n) (by simp only [execOp, i35]; rw [Sem.run_bind, hr]; rfl) ⟨_, rfl, ⟨u.heap.size, rfl, hq, by have := hgeu; omega⟩, .inl hb⟩
    · simp only [List.getElem?_toArray, List.getElem?_cons_zero, List.getElem?_cons_succ, Option.some.injEq] at ho
      subst ho
      have i36 : ∃ g', (act.eval (.tmp (36 : Nat))) = .slice (some ⟨g', 0, none⟩) n n ∧ Rq 1 cI u (.slice (some ⟨g', 0, none⟩) n n) (linJ n fun _ => (0 : Int)) ∧ g' ≠ ge := hin ⟨3, .data⟩ (by simp) rfl 36 rfl
      obtain ⟨g0, e0, hg, _⟩ := i36
      refine enter_wp 16 #[.slice (some ⟨g0, 0, none⟩) n n] (by intro c h; cases h) (fun _ _ => trivial) (by simp only [execOp, evalC, evalF, evalG, resolve, e0, List.map_toArray, List.map_cons, List.map_nil]; simp [invoke, egW, Result.andThen, go_sem]) (by intro h; cases h) (callsIn_wide.2 (whole_linOF _ n n (fun _ => (0 : Int)) u hg (by omega))) ?_
      rintro e w' ⟨q, c, rfl, hR, hF, hb⟩
      exact ⟨_, rfl, _, rfl, ⟨q, c, rfl, hR, fun g' e => by have := hF g' e; have := hgeu; omega⟩, .inl hb⟩
    · simp only [List.getElem?_toArray, List.getElem?_cons_zero, List.getElem?_cons_succ, Option.some.injEq] at ho
      subst ho
      have i33 : (act.eval (.tmp (33 : Nat))) = .slice (some ⟨ge, 0, none⟩) n n := hin ⟨0, .data⟩ (by simp) rfl 33 rfl
      have i37 : ∃ q c, (act.eval (.tmp (37 : Nat))) = .slice q n c ∧ Rw 3 cellsF u (.slice q n c) (linJ n fun _ => wholeF 0) ∧ ∀ g', (Value.slice q n c).ownBlock = some g' → g' ≠ ge := hin ⟨4, .data⟩ (by simp) rfl 37 rfl
      obtain ⟨q0, c0', e0, hq, hqn⟩ := i37
      obtain ⟨gq, oq, rfl, CQ⟩ := rq_cells0F hq.q (by omega)
      obtain ⟨hsm, hfz, hnew⟩ := CANZ u hu
      exact plain_wp (by intro c h; cases h) (fun _ _ => trivial) (v := .int .i64 n) (by simp only [execOp, resolve, List.map_toArray, List.map_cons, List.map_nil, i33, e0]; simp [invoke, builtin, goInt, run_copy_s (P := Tryz.prog) u 28 28 _ 34 3 ge 0 n n ⟨gq, oq, none⟩ n c0' n ((linJ n fun _ => wholeF 0).flatMap cellsF) Tryz.underlying28 Tryz.sizeF (by simp) FL CQ hsm hfz ONEC, Result.andThen]) ⟨_, rfl, ⟨rfl, hnew⟩, .inr ⟨but_setCells (S := fun b => b = ge) (b := ge) rfl _ _ _ _ (But.refl _ _), hnew⟩⟩
  case fin =>
    intro vs u hu hin hnon
    have a0 := hin 0 33 rfl
    have a1 := hin 1 34 rfl
    have a2 := hin 2 35 rfl
    have a3 := hin 3 36 rfl
    have a4 := hin 4 37 rfl
    have a5 := hin 5 38 rfl
    simp only [putL, Act.put, List.setIfInBounds_toArray, List.set_cons_zero, List.set_cons_succ, Nat.zero_add, Nat.reduceAdd, if_true, reduceIte] at a0 a1 a2 a3 a4 a5 ⊢
    simp only [a0, a1, a2, a5]
    obtain ⟨w5, rfl⟩ : ∃ w5, w5 = u := ⟨_, rfl⟩
    have bu45 : But (fun b => b = ge) W4 w5 := hu.but
    have HE5 := hideP a5.2
    have HZ5 := hideP (HZ4.out.but bu45 (fun b hb => by cases hb; exact gge))
    have HRW5 := hideP (HRW4.out.but bu45 (fun b hb => (gwn b hb).1))
    have z65 : MBox w5 (w.heap.size + 1 + 1) n n (some ⟨g, 0, none⟩) N c1' := z64.but bu45 (by show ¬ w.heap.size + 1 + 1 = ge; omega)
    have kr5 : FBox w5 (w.heap.size + 1) r := kr4.but bu45 (by show ¬ w.heap.size + 1 = ge; omega)
    have k85 : FBox w5 (w.heap.size + 1 + 1 + 1 + 1) zeroR := k84.but bu45 (by show ¬ w.heap.size + 1 + 1 + 1 + 1 = ge; omega)
    have s75 : w5.cell? ⟨w.heap.size + 1 + 1 + 1, 0, none⟩ = some (.slice (some ⟨ge, 0, none⟩) n n) := (bu45.cell _ _ (by omega) (by show ¬ w.heap.size + 1 + 1 + 1 = ge; omega)).trans s7w
    have f75 : w5.frozen? ⟨w.heap.size + 1 + 1 + 1, 0, none⟩ = false := (bu45.froz _ _ (by omega) (by show ¬ w.heap.size + 1 + 1 + 1 = ge; omega)).trans f7w
    have B5 : Bl w w5 := bu45.bl B4 (fun i hi => by have : i = ge := hi; omega)
    have w5s : W4.heap.size ≤ w5.heap.size := bu45.size
    clear a0 a1 a2 a3 a4 a5 hin hnon SEVEN GEU CANZ s7w f7w z64 kr4 k84
    obtain ⟨W5, hW5⟩ : ∃ W5, W5 = (((w5.setCell ⟨w.heap.size + 1 + 1 + 1 + 1, 0, none⟩ (.int .i64 r.n)).setCell ⟨w.heap.size + 1 + 1 + 1 + 1, 1, none⟩ (.int .i64 r.d)).setCell ⟨w.heap.size + 1 + 1 + 1 + 1, 2, none⟩ (.bool r.bad)) := ⟨_, rfl⟩
    have bu5 : But (fun b => b = w.heap.size + 1 + 1 + 1 + 1) w5 W5 := by rw [hW5]; exact butRF _ _ _ _ _
    have kA : FBox W5 (w.heap.size + 1 + 1 + 1 + 1) r := by rw [hW5]; exact k85.fill r
    have HZ6 := hideP (HZ5.out.but bu5 (fun b hb => by cases hb; show ¬ g = w.heap.size + 1 + 1 + 1 + 1; omega))
    have HE6 := hideP (HE5.out.but bu5 (fun b hb => by cases hb; show ¬ ge = w.heap.size + 1 + 1 + 1 + 1; omega))
    have HRW6 := hideP (HRW5.out.but bu5 (fun b hb => by have := (gwn b hb).2.2; show ¬ b = w.heap.size + 1 + 1 + 1 + 1; omega))
    have z66 : MBox W5 (w.heap.size + 1 + 1) n n (some ⟨g, 0, none⟩) N c1' := z65.but bu5 (by omega)
    have s76 : W5.cell? ⟨w.heap.size + 1 + 1 + 1, 0, none⟩ = some (.slice (some ⟨ge, 0, none⟩) n n) := (bu5.cell _ _ (by omega) (by omega)).trans s75
    have f76 : W5.frozen? ⟨w.heap.size + 1 + 1 + 1, 0, none⟩ = false := (bu5.froz _ _ (by omega) (by omega)).trans f75
    have B6 : Bl w W5 := bu5.bl B5 (fun i hi => by have : i = w.heap.size + 1 + 1 + 1 + 1 := hi; omega)
    have w6s : w5.heap.size ≤ W5.heap.size := bu5.size
    obtain ⟨c0, c1, c2, f0, f1, f2, _⟩ := kr5
    obtain ⟨d0, d1, d2, g0, g1, g2, _⟩ := k85
    have HW5 := hideP hW5
    clear hW5 z65 s75 f75
    go_wp2_with fail
    rw [← HW5.out]
    refine (backwardF n pw cw (wO kdF n s h) W5 HRW6.out).mono ?_
    rintro e w6 ⟨rfl, hkb, hw6⟩
    have b56 : Bl W5 w6 := by rw [hw6]; exact (Bl.refl _).alloc _
    have h6s : w6.heap.size = W5.heap.size + 1 := by rw [hw6]; simp
    have HKB := hideP hkb
    clear hw6 hkb c0 c1 c2 f0 f1 f2 d0 d1 d2 g0 g1 g2
    have I0 : StIF w n N g c1' ge w6.heap.size ⟨s, fun _ => wholeF 0, r⟩ w6 := ⟨(HZ6.out.later b56).base (by omega), (HE6.out.later b56).base (by omega), kA.later b56, z66.later b56, (bl_cell b56 _ _ (by omega)).trans s76, (bl_froz b56 _ _ (by omega)).trans f76, B6.trans b56, Nat.le_refl _⟩
    go_wp2_with fail
    refine (wpIn_wide (n := 8)).1 (rangeW rfl (by omega) (gf := 142) (lb := #[.pointer (some ⟨W5.heap.size, 0, none⟩)]) rfl trivial (enters_of Tryz.func142 (by kernel_rfl) rfl)
      (seqBF 7 W5.heap.size n pw cw (wO kdF n s h) (But (fun b => b = g ∨ b = ge ∨ b = w.heap.size + 1 + 1 + 1 + 1 ∨ w6.heap.size ≤ b)) (fun {A C} hk hb => keptB_butF hk hb (by show ¬ (W5.heap.size = g ∨ W5.heap.size = ge ∨ W5.heap.size = w.heap.size + 1 + 1 + 1 + 1 ∨ w6.heap.size ≤ W5.heap.size); omega) (fun b hb => by have := gwn b hb; have := HRW6.out.lt b hb; show ¬ (b = g ∨ b = ge ∨ b = w.heap.size + 1 + 1 + 1 + 1 ∨ w6.heap.size ≤ b); omega)) w6 (by omega) (fun U hU => ⟨(bl_cell hU _ _ (by omega)).trans HKB.out.box, HKB.out.row.later hU⟩))
      (fun x A B h => by rw [h.1]; exact Bl.refl _) (fun h k => h.trans k) (fun U l o o' hl _ _ _ => but_putObj9F _ (.inr (.inr (.inr hl)))) (fun _ => rfl)
      (fun pre U => StIF w n N g c1' ge w6.heap.size (foldO kdF n ⟨s, fun _ => wholeF 0, r⟩ pre) U) (fun _ _ _ => False) (fun pre X Y row hs hg hr => sti_ownF hs n1 HNN.out (by omega) hg hr) (fun _ _ _ _ _ hs _ _ => hs) I0
      (fun a pre x a' U => x.1 < n ∧ ∃ b, FBox U b x.2 ∧ w6.heap.size ≤ b ∧ a' = { tmps := ((((a.tmps.setIfInBounds 42 (.int .i64 x.1)).setIfInBounds 43 (frV x.2)).setIfInBounds 11 (.int .i64 x.1)).setIfInBounds 12 (.pointer (some ⟨b, 0, none⟩))), defers := [] })
      (fun pre x a' _ X Y row hs hg hr => by
        obtain ⟨h1, b, h2, h3, h4⟩ := hs
        exact ⟨h1, b, box_blk9F h2 (own_blk9F h2.c0 hg (fun r e => (hr r e).2)) hg.size, h3, h4⟩)
      ?assign ?body ?done ?stop)
    case assign =>
      rintro l pre x W0 U K' hI0 ⟨rfl, hx⟩ hI hK'
      have HK3 := hideP hK'
      have HI := hideP hI
      clear hK' hI hI0
      have kB : Bl U (U.alloc (.cells #[.int .i64 x.2.n, .int .i64 x.2.d, .bool x.2.bad] 34)) := (Bl.refl _).alloc _
      have hU := HI.out.sz
      gi_wp2
      refine HK3.out _ _ (kB.keeps _) (But.of_bl kB) (sti_laterF HI.out kB) ⟨hx, U.heap.size, FBox.new U x.2 _, hU, ?_⟩
      simp only [List.setIfInBounds_toArray, List.set_cons_zero, List.set_cons_succ]
    case stop =>
      rintro D' c pre U _ _ h _
      exact h.elim
    case body =>
      rintro l pre x a' U hl' ⟨rl, hr'⟩ hI ⟨hx, b, hbx, hbl, rfl⟩ hlt
      simp only [List.setIfInBounds_toArray, List.set_cons_zero, List.set_cons_succ]
      obtain ⟨T, hT⟩ : ∃ T, T = foldO kdF n ⟨s, fun _ => wholeF 0, r⟩ pre := ⟨_, rfl⟩
      rw [← hT] at hI
      have HI := hideP hI
      have HT := hideP hT
      obtain ⟨m0, m1, m2, _, _, _, _⟩ := hI.m
      have l0 := hI.l
      obtain ⟨c0, c1, c2, f0, f1, f2, _⟩ := hbx
      obtain ⟨d0, d1, d2, g0, g1, g2, _⟩ := hI.a
      obtain ⟨nb, hnb⟩ : ∃ y, y = bO kdF T.a x.2 := ⟨_, rfl⟩
      have CH := hideP (by have := rChangeF n N g c1' ge n x.1 w.heap.size T x.2 U hd HNN.out hI.s hI.e gge hx; rw [← hnb] at this; exact this)
      have HNB := hideP hnb
      clear hI hT hnb hr'
      gi_wp2_with fail
      refine ⟨trivial, ?_⟩
      refine (CallsIn.inRound l (callsIn_wide.2 CH.out)).mono ?_
      rintro e w9 ⟨rfl, hs9, he9, bt9⟩
      have bt9' : But (fun b => b = g ∨ b = ge) U w9 := bt9
      have hU := HI.out.sz
      have kA9 : FBox w9 (w.heap.size + 1 + 1 + 1 + 1) T.a := HI.out.a.but bt9 (by show ¬ (w.heap.size + 1 + 1 + 1 + 1 = g ∨ w.heap.size + 1 + 1 + 1 + 1 = ge); omega)
      have HS9 := hideP hs9
      have HE9 := hideP he9
      clear m0 m1 m2 l0 c0 c1 c2 f0 f1 f2 d0 d1 d2 g0 g1 g2 hs9 he9 bt9
      obtain ⟨d0, d1, d2, g0, g1, g2, _⟩ := id kA9
      gi_wp2
      obtain ⟨W9, hW9⟩ : ∃ W9, W9 = (((w9.setCell ⟨w.heap.size + 1 + 1 + 1 + 1, 0, none⟩ (.int .i64 nb.n)).setCell ⟨w.heap.size + 1 + 1 + 1 + 1, 1, none⟩ (.int .i64 nb.d)).setCell ⟨w.heap.size + 1 + 1 + 1 + 1, 2, none⟩ (.bool nb.bad)) := ⟨_, rfl⟩
      have bu9 : But (fun b => b = w.heap.size + 1 + 1 + 1 + 1) w9 W9 := by rw [hW9]; exact butRF _ _ _ _ _
      have kf9 : FBox W9 (w.heap.size + 1 + 1 + 1 + 1) nb := by rw [hW9]; exact kA9.fill nb
      have b9 : But (fun b => b = g ∨ b = ge ∨ b = w.heap.size + 1 + 1 + 1 + 1) U W9 := (bt9'.mono (fun i h => by rcases h with h | h; exact .inl h; exact .inr (.inl h))).trans (bu9.mono (fun i h => .inr (.inr h)))
      rw [← hW9]
      refine ⟨⟨b9.size, fun k o hB hk _ => (b9.block k (Array.getElem?_eq_some_iff.1 hk).1 (by show ¬ (k = g ∨ k = ge ∨ k = w.heap.size + 1 + 1 + 1 + 1); omega)).trans hk⟩, b9.mono (fun i h => by rcases h with h | h | h; exact .inl h; exact .inr (.inl h); exact .inr (.inr (.inl h))), ?_⟩
      show StIF w n N g c1' ge w6.heap.size (foldO kdF n ⟨s, fun _ => wholeF 0, r⟩ (pre ++ [x])) W9
      rw [foldO_next, ← HT.out]
      refine ⟨HS9.out.but bu9 (fun b hb => by cases hb; show ¬ g = w.heap.size + 1 + 1 + 1 + 1; omega), HE9.out.but bu9 (fun b hb => by cases hb; show ¬ ge = w.heap.size + 1 + 1 + 1 + 1; omega), ?_, HI.out.m.but b9 (by show ¬ (w.heap.size + 1 + 1 = g ∨ w.heap.size + 1 + 1 = ge ∨ w.heap.size + 1 + 1 = w.heap.size + 1 + 1 + 1 + 1); omega), (b9.cell _ _ (cell_lt9F HI.out.l) (by show ¬ (w.heap.size + 1 + 1 + 1 = g ∨ w.heap.size + 1 + 1 + 1 = ge ∨ w.heap.size + 1 + 1 + 1 = w.heap.size + 1 + 1 + 1 + 1); omega)).trans HI.out.l, (b9.froz _ _ (cell_lt9F HI.out.l) (by show ¬ (w.heap.size + 1 + 1 + 1 = g ∨ w.heap.size + 1 + 1 + 1 = ge ∨ w.heap.size + 1 + 1 + 1 = w.heap.size + 1 + 1 + 1 + 1); omega)).trans HI.out.lf, b9.bl HI.out.bl (fun i h => by have h' : i = g ∨ i = ge ∨ i = w.heap.size + 1 + 1 + 1 + 1 := h; omega), Nat.le_trans HI.out.sz b9.size⟩
      show FBox W9 _ (bO kdF T.a x.2)
      rw [← HNB.out]
      exact kf9
    case done =>
      rintro Dm zs U hD hS hI hKD
      subst hS
      obtain ⟨T, hT⟩ : ∃ T, T = runO kdF n s h r n := ⟨_, rfl⟩
      rw [show foldO kdF n ⟨s, fun _ => wholeF 0, r⟩ (zsBF n (wO kdF n s h) n) = T from by rw [hT]; exact foldO_run kdF n s h r n] at hI
      have HI := hideP hI
      have HKD := hideP hKD
      have HTR := hideP hT
      obtain ⟨ta, hta⟩ : ∃ y, y = T.a := ⟨_, rfl⟩
      have G0 : GdOF w n N g c1' ge ta U := ⟨hI.m, hI.l, hI.lf, by rw [hta]; exact hI.a⟩
      have HTA := hideP hta
      clear hT hta hI hKD
      go_wp2_with fail
      refine (wpIn_wide (n := 8)).1 (region_r fm (RelGF w n N g c1' ge ta) [some 50, some 51, some 52, none, none, none] (by kernel_rfl) (by rfl) (RelGF.refl0 _) (fun h k => h.trans k)
        (fun j v u => match j with | 0 => v = mV n n (some ⟨g, 0, none⟩) N c1' | 1 => v = .slice (some ⟨ge, 0, none⟩) n n | 2 => v = frV ta | 3 => True | 4 => True | 5 => True | _ => False)
        (fun j v u u' _ _ h => h) ?step ?fin)
      case step =>
        intro j o act u ho hsz hu hfr hin hnon
        have hj : j < 6 := (Array.getElem?_eq_some_iff.1 ho).1
        obtain ⟨⟨m0, m1, m2, x0, x1, x2, _⟩, l0, lf0, ⟨d0, d1, d2, g0, g1, g2, _⟩⟩ := hu.2 G0
        rcases (by omega : j = 0 ∨ j = 1 ∨ j = 2 ∨ j = 3 ∨ j = 4 ∨ j = 5) with rfl | rfl | rfl | rfl | rfl | rfl
        · simp only [List.getElem?_toArray, List.getElem?_cons_zero, List.getElem?_cons_succ, Option.some.injEq] at ho
          subst ho
          have i6 : act.eval (.tmp (6 : Nat)) = .pointer (some ⟨w.heap.size + 1 + 1, 0, none⟩) := hfr 6 (by decide)
          exact plain_wp (by intro c h; cases h) (fun _ _ => trivial) (by simp only [execOp, i6, evalC, evalF, evalG]; simp [go_sem, m0, m1, m2]) ⟨_, rfl, rfl, RelGF.refl u⟩
        · simp only [List.getElem?_toArray, List.getElem?_cons_zero, List.getElem?_cons_succ, Option.some.injEq] at ho
          subst ho
          have i7 : act.eval (.tmp (7 : Nat)) = .pointer (some ⟨w.heap.size + 1 + 1 + 1, 0, none⟩) := hfr 7 (by decide)
          exact plain_wp (by intro c h; cases h) (fun _ _ => trivial) (by simp only [execOp, i7, evalC, evalF, evalG]; simp [go_sem, l0]) ⟨_, rfl, rfl, RelGF.refl u⟩
        · simp only [List.getElem?_toArray, List.getElem?_cons_zero, List.getElem?_cons_succ, Option.some.injEq] at ho
          subst ho
          have i8 : act.eval (.tmp (8 : Nat)) = .pointer (some ⟨w.heap.size + 1 + 1 + 1 + 1, 0, none⟩) := hfr 8 (by decide)
          exact plain_wp (by intro c h; cases h) (fun _ _ => trivial) (by simp only [execOp, i8, evalC, evalF, evalG]; simp [go_sem, d0, d1, d2]) ⟨_, rfl, rfl, RelGF.refl u⟩
        · simp only [List.getElem?_toArray, List.getElem?_cons_zero, List.getElem?_cons_succ, Option.some.injEq] at ho
          subst ho
          have i6 : act.eval (.tmp (6 : Nat)) = .pointer (some ⟨w.heap.size + 1 + 1, 0, none⟩) := hfr 6 (by decide)
          have i50 : (act.eval (.tmp (50 : Nat))) = mV n n (some ⟨g, 0, none⟩) N c1' := hin ⟨0, .data⟩ (by simp) rfl 50 rfl
          exact skip_wp (by intro c h; cases h) (fun _ _ => trivial) (by simp only [execOp, i6, i50]; simp [go_sem, m0, m1, m2, x0, x1, x2]) ⟨_, rfl, trivial, RelGF.m u⟩
        · simp only [List.getElem?_toArray, List.getElem?_cons_zero, List.getElem?_cons_succ, Option.some.injEq] at ho
          subst ho
          have i7 : act.eval (.tmp (7 : Nat)) = .pointer (some ⟨w.heap.size + 1 + 1 + 1, 0, none⟩) := hfr 7 (by decide)
          have i51 : (act.eval (.tmp (51 : Nat))) = .slice (some ⟨ge, 0, none⟩) n n := hin ⟨1, .data⟩ (by simp) rfl 51 rfl
          exact skip_wp (by intro c h; cases h) (fun _ _ => trivial) (by simp only [execOp, i7, i51]; simp [go_sem, l0, lf0]) ⟨_, rfl, trivial, RelGF.l u⟩
        · simp only [List.getElem?_toArray, List.getElem?_cons_zero, List.getElem?_cons_succ, Option.some.injEq] at ho
          subst ho
          have i8 : act.eval (.tmp (8 : Nat)) = .pointer (some ⟨w.heap.size + 1 + 1 + 1 + 1, 0, none⟩) := hfr 8 (by decide)
          have i52 : (act.eval (.tmp (52 : Nat))) = frV ta := hin ⟨2, .data⟩ (by simp) rfl 52 rfl
          exact skip_wp (by intro c h; cases h) (fun _ _ => trivial) (by simp only [execOp, i8, i52]; simp [go_sem, d0, d1, d2, g0, g1, g2]) ⟨_, rfl, trivial, RelGF.a u⟩
      case fin =>
        intro vs u hu hin hnon
        have a0 := hin 0 50 rfl
        have a1 := hin 1 51 rfl
        have a2 := hin 2 52 rfl
        have a3 := hnon 3 rfl
        have a4 := hnon 4 rfl
        have a5 := hnon 5 rfl
        simp only [putL, Act.put, List.setIfInBounds_toArray, List.set_cons_zero, List.set_cons_succ, Nat.zero_add, Nat.reduceAdd, if_true, reduceIte] at a0 a1 a2 a3 a4 a5 ⊢
        simp only [a0, a1, a2]
        obtain ⟨W9, rfl⟩ : ∃ W9, W9 = u := ⟨_, rfl⟩
        have bg : But (fun b => b = w.heap.size + 1 + 1 ∨ b = w.heap.size + 1 + 1 + 1 ∨ b = w.heap.size + 1 + 1 + 1 + 1) U W9 := hu.1
        have G9 := hu.2 G0
        have hK9 : W9.heap[Dm]? = some (.deferred (some [])) := (bg.block Dm (Array.getElem?_eq_some_iff.1 HKD.out).1 (by show ¬ (Dm = w.heap.size + 1 + 1 ∨ Dm = w.heap.size + 1 + 1 + 1 ∨ Dm = w.heap.size + 1 + 1 + 1 + 1); omega)).trans HKD.out
        have HS9 := hideP (HI.out.s.but bg (fun b hb => by cases hb; show ¬ (g = w.heap.size + 1 + 1 ∨ g = w.heap.size + 1 + 1 + 1 ∨ g = w.heap.size + 1 + 1 + 1 + 1); omega))
        have HE9 := hideP (HI.out.e.but bg (fun b hb => by cases hb; show ¬ (ge = w.heap.size + 1 + 1 ∨ ge = w.heap.size + 1 + 1 + 1 ∨ ge = w.heap.size + 1 + 1 + 1 + 1); omega))
        have B9 : Bl w W9 := bg.bl HI.out.bl (fun i h => by have h' : i = w.heap.size + 1 + 1 ∨ i = w.heap.size + 1 + 1 + 1 ∨ i = w.heap.size + 1 + 1 + 1 + 1 := h; omega)
        clear a0 a1 a2 a3 a4 a5 hin hnon
        go_wp2
        refine ⟨by simp, .inl ⟨_, _, rfl, run_takeDeferred hK9, ?_⟩⟩
        have gk := grownBy_putObj' W9 Dm (.deferred none)
        have gr : ∀ r, some Dm = some r → ∃ o : Obj, W9.heap[r]? = some o ∧ o.isCells = false := fun r e => by cases e; exact ⟨_, hK9, rfl⟩
        have ne1 : mk n n T.s ≠ [] := fun e => by have := congrArg List.length e; rw [mk_len] at this; have h2 : 0 < n * n := Nat.mul_pos n1 n1; simp at this; omega
        have ne2 : linJ n T.e ≠ [] := fun e => by have := congrArg List.length e; rw [linJ_len] at this; simp at this; omega
        have d0 := cell_kept G9.m.c0 gk gr
        have d1 := cell_kept G9.m.c1 gk gr
        have d2 := cell_kept G9.m.c2 gk gr
        have e0 := cell_kept G9.l gk gr
        have q0 := cell_kept G9.a.c0 gk gr
        have q1 := cell_kept G9.a.c1 gk gr
        have q2 := cell_kept G9.a.c2 gk gr
        refine ⟨.tuple #[mV n n (some ⟨g, 0, none⟩) N c1', .slice (some ⟨ge, 0, none⟩) n n, frV ta], ?_, ⟨g, c1', ge, n, by rw [← HTR.out, ← HTA.out], ⟨?_, ?_⟩, ?_⟩⟩
        · simp [results, Tryz.f67, go_sem, d0, d1, d2, e0, q0, q1, q2]
        · rw [← HTR.out]; exact HS9.out.own cellsF_len (by decide) ne1 gk gr
        · rw [← HTR.out]; exact HE9.out.own cellsF_len (by decide) ne2 gk gr
        · exact Below.trans B9 (belowK_b (w := w) (Nat.le_refl _) W9 Dm _ _ (by omega) hK9 rfl rfl)
    
end Go.Proofs.YtljmggemdkfbiaaGreat

/- Contract of tri's Is, of fractions (layer 7), of whatever function value zero is. -/
import Derived.Test.YtbfdkahbnfpabaaGreatTrAF
import Derived.Test.YtbfdkahbnfpabaaGreatMaEF
import Derived.Laws.EntriesVeiled
namespace Go.Proofs.YtbfdkahbnfpabaaGreat
open Go.RowKit Go.Shelf
set_option linter.unusedSimpArgs false
set_option linter.unusedVariables false
attribute [local go_sem] Oper.semAt_some
/-- The address of a row's others: of none that could be read it stays. -/
def dropP7 (p : Option Addr) (cap m s : Nat) : Option Addr := if cap = m then p else p.map fun a => a.add (m * s)
theorem Tryz.drop7F (p : Option Addr) (n cap m : Nat) (w : World) (h : m ≤ n) (hc : n ≤ cap) : (Instr.sliceAt 26 (.slice p n cap) (some (.int .i64 m)) none none).run Tryz.prog w = .ok (.slice (dropP7 p cap m 3) (n - m) (cap - m)) w := by
  have hu : Tryz.prog.underlying 26 = some (.slice (Tryz.prog.elem 26)) := by kernel_rfl
  obtain ⟨i0, hi, hz0, hz1, hz2⟩ := info_parts Tryz.info_F
  have he : Tryz.prog.elem 26 = 32 := by kernel_rfl
  rw [run_sliceAt_slice (h := hu), run_slice_l (ht := hu) (h0 := by omega) (h1 := by omega), he]
  by_cases hcm : cap = m
  · simp [sizeOf, typeInfo, hi, sliced, Result.andThen, hz1, dropP7, hcm]
  · have hcm' : ¬ cap - m = 0 := by omega
    simp [sizeOf, typeInfo, hi, sliced, Result.andThen, hz1, dropP7, hcm, hcm']
theorem Rw.drop7 {α : Type} {s : Nat} {c : α → List Value} {w : World} {p : Option Addr} {cap l : Nat} {xs : List α} (h : Rw s c w (.slice p l cap) xs) (hl : l = xs.length) (n : Nat) (hn : n ≤ xs.length) :
    Rw s c w (.slice (dropP7 p cap n s) (l - n) (cap - n)) (xs.drop n) := by
  subst hl
  rcases h with ⟨e, rfl⟩ | ⟨b, o, cap', e, hc, hb, hx⟩
  · cases e
    obtain rfl : n = 0 := by simpa using hn
    exact .inl ⟨rfl, rfl⟩
  · cases e
    unfold dropP7
    split
    · rename_i hcn
      have hd : xs.drop n = [] := List.drop_eq_nil_of_le (by omega)
      rw [hd]
      exact .inr ⟨b, o, cap - n, by simp; omega, by simp, hb, fun j x hj => by simp at hj⟩
    · have hadd : (⟨b, o, none⟩ : Addr).add (n * s) = ⟨b, o + n * s, none⟩ := by unfold Addr.add; split <;> simp_all
      refine .inr ⟨b, o + n * s, cap - n, ?_, by simp; omega, hb, fun j x hj k u hu => ?_⟩
      · simp [hadd]
      · rw [List.getElem?_drop] at hj
        have := hx (n + j) x hj k u hu
        rwa [show o + (n + j) * s + k = o + n * s + j * s + k by rw [Nat.add_mul]; omega] at this

/-- What is above the diagonal, told by b. -/
def aboveB (n : Nat) (f : Nat → Nat → Fr) (b : Fr → Bool) : Bool := (List.range n).all fun i => (List.range n).all fun k => decide (k ≤ i) || b (f i k)
theorem aboveB_iff {n : Nat} {f : Nat → Nat → Fr} {b : Fr → Bool} : aboveB n f b = true ↔ ∀ i k, i < k → k < n → b (f i k) = true := by
  unfold aboveB
  simp only [List.all_eq_true, List.mem_range, Bool.or_eq_true, decide_eq_true_eq]
  constructor
  · intro h i k hik hk
    exact (h i (by omega) k hk).resolve_left (by omega)
  · intro h i hi k hk
    by_cases hki : k ≤ i
    · exact .inl hki
    · exact .inr (h i k (by omega) hk)
theorem aboveB_no {n : Nat} {f : Nat → Nat → Fr} {b : Fr → Bool} {i k : Nat} (hik : i < k) (hk : k < n) (h : b (f i k) = false) : aboveB n f b = false := by
  cases e : aboveB n f b with
  | false => rfl
  | true =>
    have := aboveB_iff.1 e i k hik hk
    rw [h] at this
    cases this
theorem Tryz.notNilF (K : Nat) (w : World) : (binOp .eql 55 (.func (.func K) #[] #[]) .nilFunc).run Tryz.prog w = .ok (.bool false) w := by kernel_rfl
theorem isBox_own {X Y : World} {B B0 : Nat} {t : TypeId} {v : Value} {row : Option Nat} (h : Boxed X B t v) (hg : X.grownBy Y row) (h0 : B < B0) (hr : ∀ r, row = some r → B0 ≤ r ∧ ∃ o : Obj, X.heap[r]? = some o ∧ o.isCells = false) : Boxed Y B t v :=
  (hg.block B h.lt (fun e => by have := (hr B e.symm).1; omega)).trans h
set_option maxRecDepth 100000 in
set_option maxHeartbeats 4000000 in
theorem tIsF (n : Nat) (p : Option Addr) (N cap : Nat) (f : Nat → Nat → Fr) (K : Nat) (b : Fr → Bool) (w : World) (h : Mx 3 cellsF w n n p N cap f) (eg : ∀ (args : Array Value) (w : World), (callFunc K args).run Tryz.prog w = .ok (.enter K args) w)
    (hK : ∀ x u, Bl w u → Calls Tryz.prog K #[frV x] u fun e w' => e = .returned (.bool (b x)) ∧ Bl u w') :
    Calls Tryz.prog 23 #[mV n n p N cap, .func (.func K) #[] #[]] w fun e w' => e = .returned (.bool (aboveB n f b)) ∧ Bl w w' := by
  refine (callsIn_wide (n := 8)).1 ?_
  have hsq : sqB n n N = true := by unfold sqB; rw [h.fit]; simp
  have hd := h.1
  have hn16 := hd.r2
  have nn := Tryz.notNilF K
  have HXm := hideP h
  have HK := hideP hK
  clear h hK
  obtain ⟨V, hV⟩ : ∃ V, V = ((w.alloc (.cells #[.int .i64 n, .int .i64 n, .slice p N cap] 28)).alloc (.cells #[.func (.func K) #[] #[]] 55)).alloc (.cells #[.bool false] 4) := ⟨_, rfl⟩
  have hBV : Bl w V := by rw [hV]; exact (((Bl.refl _).alloc _).alloc _).alloc _
  have mx0 : MBox V w.heap.size n n p N cap := by rw [hV]; exact (MBox.new w _ _ _ _ _ _).later (((Bl.refl _).alloc _).alloc _)
  have bz : Boxed V (w.heap.size + 1) 55 (.func (.func K) #[] #[]) := by
    rw [hV]
    have := (Boxed.new (w.alloc (.cells #[.int .i64 n, .int .i64 n, .slice p N cap] 28)) 55 (.func (.func K) #[] #[])).alloc (.cells #[.bool false] 4)
    simpa using this
  have br : Boxed V (w.heap.size + 1 + 1) 4 (.bool false) := by
    rw [hV]
    have := Boxed.new ((w.alloc (.cells #[.int .i64 n, .int .i64 n, .slice p N cap] 28)).alloc (.cells #[.func (.func K) #[] #[]] 55)) 4 (.bool false)
    simpa using this
  have hsz : V.heap.size = w.heap.size + 1 + 1 + 1 := by rw [hV]; simp
  have HV := hideP hV
  clear hV
  refine callsIn_of_wp_marks Tryz.func23 rfl trivial ?_ rfl
  simp only [Tryz.ntmps23, List.size_toArray, List.length_cons, List.length_nil, Nat.reduceAdd, Nat.reduceSub, Array.replicate_succ, Array.replicate_zero, List.push_toArray, List.append_toArray, List.nil_append, List.cons_append]
  gi_wp2_with fail
  rw [← HV.out]
  obtain ⟨c0, c1, c2, f0, f1, f2, lt⟩ := id mx0
  gi_wp2_with fail
  refine ⟨trivial, ?_⟩
  refine (callsIn_wide.2 (tSquareF _ _ _ _ _ _)).mono ?_
  rintro e w5 ⟨rfl, h5⟩
  rw [hsq]
  clear c0 c1 c2 f0 f1 f2
  obtain ⟨c0, c1, c2, f0, f1, f2, lt5⟩ := id (mx0.later h5)
  gi_wp2_with fail
  refine ⟨trivial, ?_⟩
  refine (callsIn_wide.2 (mAllF _ _ _ _ _ f _ (HXm.out.later (hBV.trans h5)))).mono ?_
  rintro e w7 ⟨B2, p2, cap5, rfl, hK7, h7⟩
  have HK7 := hideP hK7
  clear hK7 c0 c1 c2 f0 f1 f2
  have bV7 : Bl V w7 := h5.trans h7
  have hs7 : w.heap.size + 1 + 1 + 1 ≤ w7.heap.size := by have := bV7.size; omega
  gi_wp2_with fail
  refine rangeV rfl (by omega) (gf := 68) (lb := #[.pointer (some ⟨B2, 0, none⟩)]) rfl trivial (enters_of Tryz.func68 (by kernel_rfl) rfl)
    (seqMF 7 B2 _ w7.heap.size n n p2 N cap5 f w7 (Nat.le_refl _) HK7.out) (fun x A B h => h.1) (fun h k => h.trans k) (span_b (Nat.le_refl _)) (fun _ => rfl)
    (fun (pre : List RowX) U => (∀ x ∈ pre, ∀ k, x.1 < k → k < n → b (f x.1 k) = true) ∧ (Below V.heap.size V U ∧ w7.heap.size ≤ U.heap.size))
    (fun c _ U => c = .ret ∧ aboveB n f b = false ∧ Boxed U (w.heap.size + 1 + 1) 4 (.bool false) ∧ Below w.heap.size w U)
    (fun _ X Y row hs hg hr => ⟨hs.1, (ownFrom_below (B := w7.heap.size) (β := Unit) (n₀ := V.heap.size) (by have := bV7.size; omega) bV7.size) () X Y row hs.2.1 hg hr, Nat.le_trans hs.2.2 hg.size⟩)
    (fun c _ X Y row hs hg hr => ⟨hs.1, hs.2.1, isBox_own hs.2.2.1 hg (by omega) hr, (ownFrom_below (B := w7.heap.size) (β := Unit) (n₀ := w.heap.size) (Nat.le_refl _) (by omega)) () X Y row hs.2.2.2 hg hr⟩)
    ⟨by simp, bV7, Nat.le_refl _⟩
    (fun a x a' U => Rw 3 cellsF U (rowV n x) (rowM n f x.1) ∧ ((x.1 < n ∧ n ≤ x.2.2) ∧ a' = { tmps := ((((a.tmps.setIfInBounds 14 (.int .i64 x.1)).setIfInBounds 15 (rowV n x)).setIfInBounds 5 (.int .i64 x.1)).setIfInBounds 6 (rowV n x)), defers := [] }))
    (fun x a' _ X Y row hs hg hr => ⟨rw_own hs.1 hg (fun r e => (hr r e).2), hs.2⟩)
    ?assign ?body ?done ?stop
  case assign =>
    rintro l pre x W0 U K' _ ⟨hbU, hxR, hrow, hfr, hcc⟩ hI hK'
    have HK2 := hideP hK'
    have HI := hideP hI
    have HRO := hideP hrow
    clear hK' hI hrow
    gi_wp2
    refine HK2.out _ _ (KeepsFrom.refl _ _) (Span.refl _ _ _) HI.out ⟨HRO.out, ⟨hxR, hcc⟩, ?_⟩
    simp only [List.setIfInBounds_toArray, List.set_cons_zero, List.set_cons_succ]
  case body =>
    rintro l pre x a' U hl' ⟨r, hr'⟩ ⟨hpre, hbU, hsU⟩ ⟨hrx, ⟨hxn, hxc⟩, rfl⟩ hlt
    simp only [List.setIfInBounds_toArray, List.set_cons_zero, List.set_cons_succ]
    obtain ⟨x1, xp, xc⟩ := x
    dsimp only [rowV] at *
    have HPRE := hideP hpre
    have bz1 := boxed_bl bz (show Bl V U from hbU)
    have br1 := boxed_bl br (show Bl V U from hbU)
    have hdr := hrx.drop7 (by rw [rowM_len]) (x1 + 1) (by rw [rowM_len]; omega)
    have hdp := fun u => Tryz.drop7F xp n xc (x1 + 1) u (by omega) hxc
    rw [show ((x1 + 1 : Nat) : Int) = (x1 : Int) + 1 by omega] at hdp
    generalize dropP7 xp xc (x1 + 1) 3 = dp at *
    obtain ⟨m, hm⟩ : ∃ m, m = n - (x1 + 1) := ⟨_, rfl⟩
    obtain ⟨c, hc⟩ : ∃ c, c = xc - (x1 + 1) := ⟨_, rfl⟩
    rw [← hm, ← hc] at hdr hdp
    have hm16 : m ≤ 16 := by omega
    have HDR := hideP hdr
    have HM := hideP hm
    clear hrx hdr hpre hc hm
    gi_wp2_with fail
    gi_loopw [21] (fun v wr => ∃ j : Nat, v = .int .i64 j ∧ j ≤ m ∧ Bl U wr ∧ ∀ k, k < j → b (f x1 (x1 + 1 + k)) = true) (fun v _ => m - (intOf v).toNat)
    case atStart => exact ⟨0, rfl, Nat.zero_le _, Bl.refl _, fun k hk => by omega⟩
    case round =>
      obtain ⟨j, rfl, hj, bl, hbj⟩ := hrel
      have HBJ := hideP hbj
      clear hbj
      by_cases hlt2 : j < m
      · have hy : (List.drop (x1 + 1) (rowM n f x1))[j]? = some (f x1 (x1 + 1 + j)) := by
          rw [List.getElem?_drop]
          exact rowM_get f x1 (by have := HM.out; omega)
        obtain ⟨g, o, rfl, CX⟩ : ∃ g o, dp = some ⟨g, o, none⟩ ∧ ∀ k u, (cellsF (f x1 (x1 + 1 + j)))[k]? = some u → wr.cell? ⟨g, o + j * 3 + k, none⟩ = some u := by
          rcases HDR.out with ⟨e, _⟩ | ⟨g, o, cc, e, _, hg, hx⟩
          · simp only [Value.slice.injEq] at e
            omega
          · simp only [Value.slice.injEq] at e
            exact ⟨g, o, e.1, fun k u hu => (bl_cell bl _ _ hg).trans (hx j _ hy k u hu)⟩
        obtain ⟨y, hyy⟩ : ∃ y, y = f x1 (x1 + 1 + j) := ⟨_, rfl⟩
        rw [← hyy] at CX
        have x0 : wr.cell? ⟨g, o + j * 3, none⟩ = some (.int .i64 y.n) := CX 0 _ rfl
        have x1' : wr.cell? ⟨g, o + j * 3 + 1, none⟩ = some (.int .i64 y.d) := CX 1 _ rfl
        have x2 : wr.cell? ⟨g, o + j * 3 + 2, none⟩ = some (.bool y.bad) := CX 2 _ rfl
        have HY := hideP hyy
        have bz2 := boxed_bl bz1 bl
        have zc := bz2.cell
        clear hy CX hyy
        obtain ⟨X, hX⟩ : ∃ X, X = wr.alloc (.cells #[.int .i64 y.n, .int .i64 y.d, .bool y.bad] 32) := ⟨_, rfl⟩
        have bX : Bl wr X := by rw [hX]; exact (Bl.refl _).alloc _
        obtain ⟨d0, d1, d2, g0, g1, g2, ltX⟩ : FBox X wr.heap.size y := by rw [hX]; exact FBox.new wr y _
        have zc2 := (boxed_bl bz2 bX).cell
        rw [hX] at zc2
        have HX := hideP hX
        clear hX d0 d1 d2 g0 g1 g2 zc
        gi_wp2_with fail
        rw [← HX.out]
        refine ⟨trivial, ?_⟩
        refine CallsIn.mono (F := Fence.wide.inRound l) (show CallsIn (Fence.wide.inRound l) 5 Tryz.prog K #[frV y] X _ from callsIn_wide.2 (HK.out y X (hBV.trans ((show Bl V U from hbU).trans (bl.trans bX))))) ?_
        rintro e w9 ⟨rfl, h9⟩
        have bU9 : Bl U w9 := bl.trans (bX.trans h9)
        have br9 := boxed_bl br1 bU9
        have bc := br9.cell
        have fc := br9.frozen
        have bV9 : Bl V w9 := (show Bl V U from hbU).trans bU9
        cases hby : b y with
        | true =>
          gi_wp2
          go_roundw
          case rel =>
            refine ⟨j + 1, by simp, hlt2, bU9, fun k hk => ?_⟩
            by_cases hkj : k < j
            · exact HBJ.out k hkj
            · obtain rfl : k = j := by omega
              rw [← HY.out]; exact hby
          case measure => simp [intOf]; omega
        | false =>
          have hab : aboveB n f b = false := aboveB_no (i := x1) (k := x1 + 1 + j) (by omega) (by have := HM.out; omega) (by rw [← HY.out]; exact hby)
          gi_wp2
          refine ⟨(bU9.keeps _).trans ((KeepsOthers.setCell _ _ _).from _), rfl, hab, ?_, ?_⟩
          · have := br9.set (.bool false); simpa using this
          · exact (hBV.trans bV9).setCell (p := ⟨w.heap.size + 1 + 1, 0, none⟩) (by simp; omega) _
      · have HBJ2 := HBJ.out
        obtain rfl : j = m := by omega
        gi_wp2
        refine ⟨bl.keeps _, bl.span hsU, ?_, hbU.trans (bl.mono (show V.heap.size ≤ U.heap.size by have := bV7.size; omega)), by have := bl.size; omega⟩
        intro x hx k hk1 hk2
        rcases List.mem_append.1 hx with h | h
        · exact HPRE.out x h k hk1 hk2
        · obtain rfl : x = (x1, xp, xc) := by simpa using h
          have := HBJ2 (k - (x1 + 1)) (by have := HM.out; dsimp only at hk1; omega)
          dsimp only at hk1 ⊢
          rwa [show x1 + 1 + (k - (x1 + 1)) = k by omega] at this
  case done =>
    rintro D zs U hD hS ⟨hall, hbU, hsU⟩ hKD
    have hab : aboveB n f b = true := aboveB_iff.2 fun i k hik hk => by
      have : i ∈ zs.map (·.1) := by rw [hS]; simp; omega
      obtain ⟨x, hx, rfl⟩ := List.mem_map.1 this
      exact hall x hx k hik hk
    have br7 := boxed_bl br (show Bl V U from hbU)
    have bc := br7.cell
    have fc := br7.frozen
    have HKD := hideP hKD
    have HDD := hideP hD
    clear hKD hD
    gi_wp2
    refine ⟨by simp, .inl ⟨_, _, rfl, run_takeDeferred ((KeepsOthers.setCell U ⟨w.heap.size + 1 + 1, 0, none⟩ (.bool true)).same D _ HKD.out rfl), ?_⟩⟩
    have hc6 := cell_kept (World.cell?_setCell_same' U ⟨w.heap.size + 1 + 1, 0, none⟩ (.bool true) (by rw [bc]; rfl)) (grownBy_putObj' _ D (.deferred none)) (fun r e => by cases e; exact ⟨_, (KeepsOthers.setCell U ⟨w.heap.size + 1 + 1, 0, none⟩ (.bool true)).same D _ HKD.out rfl, rfl⟩)
    refine ⟨.bool true, ?_, by rw [hab], ?_⟩
    · simp [results, Tryz.f23, go_sem, hc6]
    · have t1 : Below w.heap.size w U := hBV.trans hbU
      have t2 := t1.setCell (p := ⟨w.heap.size + 1 + 1, 0, none⟩) (by simp; omega) (.bool true)
      exact t2.trans (belowK_b (w := w) (Nat.le_refl _) _ D _ _ (by have := HDD.out; omega) ((KeepsOthers.setCell U ⟨w.heap.size + 1 + 1, 0, none⟩ (.bool true)).same D _ HKD.out rfl) rfl rfl)
  case stop =>
    rintro D c pre U hD hpre ⟨rfl, hab, hbx, hbU⟩ hKD
    have bc := hbx.cell
    gi_wp2
    refine ⟨by simp, .inl ⟨_, _, rfl, run_takeDeferred hKD, ?_⟩⟩
    have hc6 := cell_kept hbx.cell (grownBy_putObj' _ D (.deferred none)) (fun r e => by cases e; exact ⟨_, hKD, rfl⟩)
    refine ⟨.bool false, ?_, by rw [hab], ?_⟩
    · simp [results, Tryz.f23, go_sem, hc6]
    · exact hbU.trans (belowK_b (w := w) (Nat.le_refl _) _ D _ _ (by omega) hKD rfl rfl)
end Go.Proofs.YtbfdkahbnfpabaaGreat

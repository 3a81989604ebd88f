/- What is solved of whole numbers: back again, and enclosed (layer 7, TriSolves). -/
import Derived.Test.YtbfdkahbnfpabaaGreatMaGF
import Derived.Laws.EntriesVeiled
import Derived.Test.YtbfdkahbnfpabaaGreatG4
import Derived.Test.YtbfdkahbnfpabaaGreatG7
import Derived.Test.YtbfdkahbnfpabaaGreatReg
import Derived.Test.YtbfdkahbnfpabaaGreatG6
import Derived.Test.YtbfdkahbnfpabaaGreatG5
/- mat's Apply, of fractions (layer 6). -/
namespace Go.Proofs.YtbfdkahbnfpabaaGreat
open Go.RowKit Go.Shelf
set_option linter.unusedSimpArgs false
set_option linter.unusedVariables false
attribute [local go_sem] Oper.semAt_some

theorem one_rows {α : Type} (h : Nat → α) (pre : List RowX) : rowsL 1 (fun i _ => h i) pre = pre.map (fun x => h x.1) := by
  unfold rowsL
  induction pre with
  | nil => rfl
  | cons x pre ih => rw [List.flatMap_cons, ih]; rfl
set_option maxRecDepth 100000 in
set_option maxHeartbeats 4000000 in
theorem mApplyF (R M : Nat) (p : Option Addr) (n cap : Nat) (f : Nat → Nat → Fr) (q : Option Addr) (cap2 : Nat) (xs : List Fr) (w : World) (hx : Mx 3 cellsF w R M p n cap f) (hy : Rq 3 cellsF w (.slice q M cap2) xs) (hl : xs.length = M) :
    Calls Tryz.prog 19 #[mV R M p n cap, .slice q M cap2] w fun e w' => ∃ p' cap', e = .returned (.tuple #[.slice p' R cap', .bool true]) ∧ Rw 3 cellsF w' (.slice p' R cap') ((List.range R).map fun i => dotF (rowM M f i) xs) ∧ Bl w w' := by
  obtain ⟨i0, hi, hz0, hz1, hz2⟩ := info_parts Tryz.info_F
  refine (callsIn_wide (n := 8)).1 ?_
  have hfx := hx.fit
  have hdR := hx.1
  have hR16 := hdR.r2
  have hM16 := hdR.c2
  have HXm := hideP hx
  have HYm := hideP hy
  have HL := hideP hl
  clear hx hy hl
  obtain ⟨W, hW⟩ : ∃ W, W = (w.alloc (.cells #[.int .i64 R, .int .i64 M, .slice p n cap] 28)).alloc (.cells #[.slice q M cap2] 26) := ⟨_, rfl⟩
  have b0 : Bl w W := by rw [hW]; exact ((Bl.refl _).alloc _).alloc _
  have mx0 : MBox W w.heap.size R M p n cap := by rw [hW]; exact (MBox.new w _ _ _ _ _ _).later ((Bl.refl _).alloc _)
  have my0 : Boxed W (w.heap.size + 1) 26 (.slice q M cap2) := by rw [hW]; have := Boxed.new (w.alloc (.cells #[.int .i64 R, .int .i64 M, .slice p n cap] 28)) 26 (.slice q M cap2); rw [World.size_alloc] at this; exact this
  have hs0 : W.heap.size = w.heap.size + 1 + 1 := by rw [hW]; simp
  have HW := hideP hW
  clear hW
  refine callsIn_of_wp_marks Tryz.func19 rfl trivial ?_ rfl
  simp only [Tryz.ntmps19, List.size_toArray, List.length_cons, List.length_nil, Nat.reduceAdd, Nat.reduceSub, Array.replicate_succ, Array.replicate_zero, List.push_toArray, List.append_toArray, List.nil_append, List.cons_append]
  gi_wp2_with fail
  rw [← HW.out]
  refine ⟨trivial, ?_⟩
  refine (callsIn_wide.2 (mRightF _ _ _ _ _ _)).mono ?_
  rintro e w5 ⟨rfl, h5⟩
  rw [hfx]
  have mx5 := mx0.later h5
  have my5 := boxed_bl my0 h5
  have bw5 : Bl w w5 := b0.trans h5
  obtain ⟨c0, c1, c2, f0, f1, f2, lt⟩ := id mx5
  have d0 := my5.cell
  gi_wp2_with (gi_at_make; refine wpListIn_make_own _ rfl _ _ 26 rfl w5.heap.size 32 i0 (.agg #[.int .i64 0, .int .i64 0, .bool false]) 3 Tryz.underlying26 hi hz0 hz1 .i64 .i64 _ R rfl rfl (by simp) (by rw [hz2]; omega) (by unfold maxLen; omega) (by simp) ?_; intro w6 hown0 hgrow0; have mx6 := mbox_block mx5 (hgrow0.block _ mx5.lt nofun) hgrow0.size; clear c0 c1 c2 f0 f1 f2 d0 lt; obtain ⟨c0, c1, c2, f0, f1, f2, lt⟩ := mx6)
  have h56 : Bl w5 w6 := ⟨hgrow0.os, hgrow0.tape, hgrow0.output, hgrow0.size, fun k hk => hgrow0.block k hk nofun⟩
  have hs6 : w5.heap.size ≤ w6.heap.size := hgrow0.size
  obtain ⟨w6b, hw6b⟩ : ∃ w6b, w6b = w6.alloc (.cells #[.slice (some ⟨w5.heap.size, 0, none⟩) 0 R] 26) := ⟨_, rfl⟩
  have h6b : Bl w6 w6b := by rw [hw6b]; exact (Bl.refl _).alloc _
  have hs6b : w6b.heap.size = w6.heap.size + 1 := by rw [hw6b]; simp
  have bl6 : Boxed w6b w6.heap.size 26 (.slice (some ⟨w5.heap.size, 0, none⟩) 0 R) := by rw [hw6b]; exact Boxed.new w6 _ _
  have hown6 : w6b.ownsRow w5.heap.size 32 3 (.slice (some ⟨w5.heap.size, 0, none⟩) 0 R) 0 [] := own_blF hown0 h6b
  have hlt5 : w5.heap.size < w6b.heap.size := by have := (hown6.lt w5.heap.size rfl).2; exact this
  have HW6 := hideP hw6b
  clear hw6b hown0 hgrow0 c0 c1 c2 f0 f1 f2 lt
  rw [← HW6.out]
  refine ⟨trivial, ?_⟩
  refine (callsIn_wide.2 (mAllF _ _ _ _ _ f _ (HXm.out.later ((bw5.trans h56).trans h6b)))).mono ?_
  rintro e w7 ⟨B2, p2, cap5, rfl, hK7, h7⟩
  have HK7 := hideP hK7
  clear hK7
  have hs7 : w6.heap.size + 1 ≤ w7.heap.size := by have := h7.size; omega
  have b57 : Below w5.heap.size w5 w7 := (h56.trans h6b).trans h7
  have bl7 := boxed_bl bl6 h7
  have own7 := own_blF hown6 h7
  clear bl6 hown6
  gi_wp2_with fail
  refine rangeV rfl (by omega) (gf := 68) (lb := #[.pointer (some ⟨B2, 0, none⟩)]) rfl trivial (enters_of Tryz.func68 (by kernel_rfl) rfl)
    (seqMF 7 B2 _ w7.heap.size R M p2 n cap5 f w7 (Nat.le_refl _) HK7.out) (fun x A B h => h.1) (fun h k => h.trans k) (span_b (Nat.le_refl _)) (fun _ => rfl)
    (fun (pre : List RowX) U => (∃ v, Boxed U w6.heap.size 26 v ∧ U.ownsRow w5.heap.size 32 3 v (pre.map fun x : RowX => dotF (rowM M f x.1) xs).length ((pre.map fun x : RowX => dotF (rowM M f x.1) xs).flatMap cellsF) ∧ (∀ b, v.ownBlock = some b → b < w6b.heap.size ∨ w7.heap.size ≤ b)) ∧ (Below w5.heap.size w5 U ∧ w7.heap.size ≤ U.heap.size))
    (fun _ _ _ => False)
    (OwnFrom.and (Own.from (holdsRow_own w5.heap.size w6.heap.size 26 32 3 (fun pre : List RowX => (pre.map fun x : RowX => dotF (rowM M f x.1) xs).length) (fun pre : List RowX => (pre.map fun x : RowX => dotF (rowM M f x.1) xs).flatMap cellsF) (fun _ v => ∀ b, v.ownBlock = some b → b < w6b.heap.size ∨ w7.heap.size ≤ b)) _) (OwnFrom.and (ownFrom_below (Nat.le_refl _) b57.size) (own_size _ _)))
    (fun _ _ _ _ _ hs _ _ => hs)
    ⟨⟨_, bl7, own7, fun b hb => by cases hb; exact .inl hlt5⟩, b57, Nat.le_refl _⟩
    (fun a x a' U => Rw 3 cellsF U (rowV M x) (rowM M f x.1) ∧ a' = { tmps := (((a.tmps.setIfInBounds 24 (.int .i64 x.1)).setIfInBounds 25 (rowV M x)).setIfInBounds 8 (rowV M x)), defers := [] })
    (fun x a' _ X Y row hs hg hr => ⟨rw_own hs.1 hg (fun r e => (hr r e).2), hs.2⟩)
    ?assign ?body ?done ?stop
  case assign =>
    rintro l pre x W0 U K' _ ⟨hbU, hxR, hrow, hfr, hcc⟩ hI hK'
    have HK2 := hideP hK'
    have HI := hideP hI
    clear hK' hI
    gi_wp2
    exact HK2.out _ _ (KeepsFrom.refl _ _) (Span.refl _ _ _) HI.out ⟨hrow, rfl⟩
  case body =>
    rintro l pre x a' U hl' ⟨r, hr'⟩ ⟨⟨v, hv, hrow, hgv⟩, hbU, hsU⟩ ⟨hrx, rfl⟩ hlt
    simp only [List.setIfInBounds_toArray, List.set_cons_zero, List.set_cons_succ]
    gi_wp2_with fail
    have hbv := boxed_bl (show Boxed w5 _ _ _ from my5) hbU
    have hC := fun u (hu : Bl U u) => vDotF (rowV M x) (.slice q M cap2) (rowM M f x.1) xs u (hrx.later hu).q (HYm.out.later ((bw5.trans hbU).trans hu)) (by rw [rowM_len]; omega) (by rw [HL.out]; omega)
    have hlen2 : (pre.map fun x : RowX => dotF (rowM M f x.1) xs).length ≤ 100000 := by rw [List.length_map]; omega
    refine dotAppendF (ops := _) rfl (by kernel_rfl) 26 6 33 (by simp) (by omega) ⟨rfl, rfl, rfl⟩ ⟨rfl, rfl⟩ ⟨rfl, rfl⟩ ⟨rfl, rfl, rfl⟩ ⟨rfl, rfl, rfl⟩ ⟨rfl, rfl, rfl⟩ ⟨rfl, rfl, rfl⟩ ⟨by simp, by simp⟩ (by simp) ⟨by simp, by simp⟩ (by simp)
      (rowV M x) (.slice q M cap2) (fun act u K' hfr hu hk => move_wp (.tmp 8) rfl (by rw [hfr 8 (by omega)]; exact hk))
      (fun act u K' hfr hu hk => load_wp 26 (.tmp 3) rfl (by rw [hfr 3 (by omega)]; exact Tryz.load1F (w.heap.size + 1) _ u (boxed_bl hbv hu).cell) hk)
      trivial (fun _ => by omega) (enters_of Tryz.func33 (by kernel_rfl) rfl) (dotF (rowM M f x.1) xs)
      (fun u hu => CallsIn.inRound l (callsIn_wide.2 (hC u hu)))
      w6.heap.size rfl v hv w5.heap.size (pre.map fun x : RowX => dotF (rowM M f x.1) xs) hrow hlen2 (by have := b57.size; omega) ?_
    intro act u0 w8 g' cap' k1 k2 k3 k4
    have hvu := boxed_bl hv k1
    have hru := own_blF hrow k1
    have hsu := k1.size
    have hu5 : w5.heap.size ≤ u0.heap.size := by have := b57.size; omega
    obtain ⟨hv5, hv6, hr6, hk6, hb6⟩ := boxed_appended hvu (by decide) hru hu5 (by omega) k3 k2
    have hg8 := k2.size
    refine ⟨(k1.keeps _).trans (hk6.from _), span_appended k1 (by omega) hgv k2 (by omega), ⟨_, hv6, ?_, ?_⟩, ?_, ?_⟩
    · rw [List.map_append]
      simpa [List.flatMap_append] using hr6
    · intro b hb
      have hb' : g' = b := by cases hb; rfl
      subst hb'
      rcases k4 with h | h
      · exact hgv _ h.symm
      · exact .inr (by omega)
    · exact hbU.trans ((k1.mono (by have := b57.size; omega)).trans hb6)
    · simp; omega
  case done =>
    rintro Dm zs U hD hS ⟨⟨v, hv, hrow, _⟩, hb5, hs7'⟩ hKD
    have e : (zs.map fun x : RowX => dotF (rowM M f x.1) xs) = (List.range R).map fun i => dotF (rowM M f i) xs := by rw [← hS, List.map_map]; rfl
    rw [e] at hrow
    have RW := Rw.of_own cellsF_len (ownsRow_putObj hrow (.deferred none) hKD rfl)
    obtain ⟨p', cap', hv', _, _⟩ := RW.cut
    rw [List.length_map, List.length_range] at hv'
    subst hv'
    have hcl := hv.cell
    have hbw : Bl w U := bw5.trans hb5
    have HRW := hideP RW
    have HKD := hideP hKD
    clear hrow RW hKD hv
    gi_wp2
    refine ⟨by simp, .inl ⟨_, _, rfl, run_takeDeferred HKD.out, ?_⟩⟩
    exact ⟨_, results_tmp2 rfl _ _ _, p', cap', rfl, HRW.out, Below.trans hbw (belowK_b (w := w) (Nat.le_refl _) U Dm _ _ (by have := bw5.size; have := b57.size; omega) HKD.out rfl rfl)⟩
  case stop =>
    rintro D' c pre U _ _ h _
    exact h.elim
theorem mApplyF_no (R M : Nat) (p : Option Addr) (n cap : Nat) (q : Option Addr) (m cap2 : Nat) (w : World) (hfx : fitB R M n = true) (hne : m ≠ M) :
    Calls Tryz.prog 19 #[mV R M p n cap, .slice q m cap2] w fun e w' => e = .returned (.tuple #[.slice none 0 0, .bool false]) ∧ Bl w w' := by
  obtain ⟨W, hW⟩ : ∃ W, W = (w.alloc (.cells #[.int .i64 R, .int .i64 M, .slice p n cap] 28)).alloc (.cells #[.slice q m cap2] 26) := ⟨_, rfl⟩
  have b0 : Bl w W := by rw [hW]; exact ((Bl.refl _).alloc _).alloc _
  have mx0 : MBox W w.heap.size R M p n cap := by rw [hW]; exact (MBox.new w _ _ _ _ _ _).later ((Bl.refl _).alloc _)
  have my0 : Boxed W (w.heap.size + 1) 26 (.slice q m cap2) := by rw [hW]; have := Boxed.new (w.alloc (.cells #[.int .i64 R, .int .i64 M, .slice p n cap] 28)) 26 (.slice q m cap2); rw [World.size_alloc] at this; exact this
  have hne' : ((m : Int) == (M : Int)) = false := by simp; omega
  have HW := hideP hW
  clear hW hne
  go_enter Tryz.func19, Tryz.ntmps19
  go_wp2_with fail
  rw [← HW.out]
  refine (mRightF _ _ _ _ _ _).mono ?_
  rintro e w1 ⟨rfl, h1⟩
  rw [hfx]
  obtain ⟨c0, c1, c2, f0, f1, f2, lt⟩ := mx0.later h1
  have d0 := (boxed_bl my0 h1).cell
  go_wp2
  go_ret2
  exact ⟨rfl, b0.trans h1⟩
end Go.Proofs.YtbfdkahbnfpabaaGreat

/- What is solved of a lower triangle: enclosed numbers beside fractions; the triangle times it is what was asked (layer 7). Mathematics alone. -/
namespace Go.Proofs.YtbfdkahbnfpabaaGreat
open Go.RowKit
set_option linter.unusedSimpArgs false
set_option linter.unusedVariables false

/-- The first numbers of what is solved. -/
def solveTo {α : Type} (sub div : α → α → α) (dot : List α → List α → α) (s : Nat → Nat → α) (b : Nat → α) : Nat → List α
  | 0 => []
  | i + 1 => solveTo sub div dot s b i ++ [div (sub (b i) (dot (rowM i s i) (solveTo sub div dot s b i))) (s i i)]
/-- One of them. -/
def solveAt {α : Type} (sub div : α → α → α) (dot : List α → List α → α) (s : Nat → Nat → α) (b : Nat → α) (i : Nat) : α := div (sub (b i) (dot (rowM i s i) (solveTo sub div dot s b i))) (s i i)
theorem solveTo_map {α : Type} (sub div : α → α → α) (dot : List α → List α → α) (s : Nat → Nat → α) (b : Nat → α) : ∀ n, solveTo sub div dot s b n = (List.range n).map (solveAt sub div dot s b)
  | 0 => rfl
  | n + 1 => by rw [List.range_succ, List.map_append, ← solveTo_map sub div dot s b n]; rfl
theorem solveTo_len {α : Type} (sub div : α → α → α) (dot : List α → List α → α) (s : Nat → Nat → α) (b : Nat → α) (n : Nat) : (solveTo sub div dot s b n).length = n := by rw [solveTo_map]; simp
theorem solveTo_get {α : Type} (sub div : α → α → α) (dot : List α → List α → α) (s : Nat → Nat → α) (b : Nat → α) {n k : Nat} (h : k < n) : (solveTo sub div dot s b n)[k]? = some (solveAt sub div dot s b k) := by rw [solveTo_map]; simp [h]
/-- What is solved of enclosed numbers encloses what is solved of the fractions. -/
theorem solveTo_enc {n : Nat} {s : Nat → Nat → En} {f : Nat → Nat → Fr} {b : Nat → En} {c : Nat → Fr} (hs : ∀ i j, i < n → j < n → EncF (s i j) (f i j)) (hb : ∀ i, i < n → EncF (b i) (c i)) :
    ∀ k, k ≤ n → EncL (solveTo subE divE dotN s b k) (solveTo subR divR dotF f c k)
  | 0, _ => trivial
  | k + 1, hk => by
    have ih := solveTo_enc hs hb k (by omega)
    have hkn : k < n := by omega
    have hx := encF_div (encF_sub (hb k hkn) (encF_dot (encL_row (n := n) (k := k) (by omega) fun j hj => hs k j hkn hj) ih)) (hs k k hkn hkn)
    refine encL_of (by rw [solveTo_len, solveTo_len]) fun j e g h1 h2 => ?_
    have hj : j < k + 1 := by have := (List.getElem?_eq_some_iff.1 h1).1; rwa [solveTo_len] at this
    by_cases h : j = k
    · subst h
      rw [solveTo_get _ _ _ _ _ hj] at h1 h2
      cases h1
      cases h2
      exact hx
    · refine encL_get ih j e g ?_ ?_
      · rw [solveTo_get _ _ _ _ _ hj] at h1; rw [solveTo_get _ _ _ _ _ (by omega)]; exact h1
      · rw [solveTo_get _ _ _ _ _ hj] at h2; rw [solveTo_get _ _ _ _ _ (by omega)]; exact h2
/-- A dot whose first row ends at k. -/
theorem dotQ_cut {f g : Nat → Rat} {k : Nat} (h : ∀ j, k < j → f j = 0) : ∀ n, k < n → dotQ ((List.range n).map f) ((List.range n).map g) = dotQ ((List.range k).map f) ((List.range k).map g) + f k * g k
  | 0, hk => by omega
  | n + 1, hk => by
    rw [List.range_succ, List.map_append, List.map_append]
    simp only [List.map_cons, List.map_nil]
    rw [dotQ_snoc (by simp)]
    by_cases e : k = n
    · subst e; rfl
    · rw [dotQ_cut h n (by omega), h n (by omega), Rat.zero_mul, Rat.add_zero]
/-- The cleared triangle's row times what is solved, where that may be one, is what was asked. -/
theorem solve_back {n : Nat} {s c : Nat → Nat → Fr} {b : Nat → Fr} {k : Nat} (hk : k < n) (hc : ∀ j, j ≤ k → c k j = s k j) (hz : ∀ j, k < j → toQ (c k j) = 0) (hf : fineR (dotF (rowM n c k) (solveTo subR divR dotF s b n)) = true) :
    dotF (rowM n c k) (solveTo subR divR dotF s b n) = b k := by
  obtain ⟨hall, hq⟩ := dot_q hf
  have hx : fineR (solveAt subR divR dotF s b k) = true ∧ fineR (s k k) = true := by
    have hm : mulR (c k k) (solveAt subR divR dotF s b k) ∈ List.zipWith mulR (rowM n c k) (solveTo subR divR dotF s b n) := by
      refine List.mem_of_getElem? (i := k) ?_
      rw [List.getElem?_zipWith, rowM_get c k hk, solveTo_get _ _ _ _ _ hk]
    have := mul_q (hall _ hm)
    exact ⟨this.2.1, by rw [← hc k (Nat.le_refl _)]; exact this.1⟩
  have hmq := div_mul_q (a := subR (b k) (dotF (rowM k s k) (solveTo subR divR dotF s b k))) (b := s k k) hx.1
  obtain ⟨f1, f2, f3⟩ := sub_q (div_q (a := subR (b k) (dotF (rowM k s k) (solveTo subR divR dotF s b k))) (b := s k k) hx.1).1
  refine fr_eq hf f1 ?_
  rw [hq, show (rowM n c k).map toQ = (List.range n).map (fun j => toQ (c k j)) by unfold rowM; rw [List.map_map]; rfl,
    show (solveTo subR divR dotF s b n).map toQ = (List.range n).map (fun j => toQ (solveAt subR divR dotF s b j)) by rw [solveTo_map, List.map_map]; rfl,
    dotQ_cut (f := fun j => toQ (c k j)) hz n hk]
  have e1 : (List.range k).map (fun j => toQ (c k j)) = (rowM k s k).map toQ := by
    unfold rowM
    rw [List.map_map]
    refine List.map_congr_left fun j hj => ?_
    have hj' : j < k := by simpa using hj
    show toQ (c k j) = toQ (s k j)
    rw [hc j (by omega)]
  have e2 : (List.range k).map (fun j => toQ (solveAt subR divR dotF s b j)) = (solveTo subR divR dotF s b k).map toQ := by rw [solveTo_map, List.map_map]; rfl
  rw [e1, e2, ← (dot_q f2).2, hc k (Nat.le_refl _), Rat.mul_comm]
  rw [show toQ (solveAt subR divR dotF s b k) * toQ (s k k) = _ from hmq, f3, Rat.add_comm, Rat.sub_eq_add_neg, Rat.add_assoc, Rat.neg_add_cancel, Rat.add_zero]
end Go.Proofs.YtbfdkahbnfpabaaGreat

/- An append of what is told of two values to a row, of enclosed numbers: a region that draws its order (layer 6). Written by genMa.py. -/
namespace Go.Proofs.YtbfdkahbnfpabaaGreat
open Go.RowKit Go.Shelf
set_option linter.unusedSimpArgs false
set_option linter.unusedVariables false

theorem Tryz.load1N (B : Nat) (v : Value) (u : World) (h : u.cell? ⟨B, 0, none⟩ = some v) : (Instr.loadAt 34 (.pointer (some ⟨B, 0, none⟩))).run Tryz.prog u = .ok v u := by
  simp [go_sem, h]
theorem Tryz.store1N (B : Nat) (p : Option Addr) (n cap : Nat) (v : Value) (u : World) (h : u.cell? ⟨B, 0, none⟩ = some v) (hf : u.frozen? ⟨B, 0, none⟩ = false) : (Instr.storeAt 34 (.pointer (some ⟨B, 0, none⟩)) (.slice p n cap)).run Tryz.prog u = .ok () (u.setCell ⟨B, 0, none⟩ (.slice p n cap)) := by
  simp [go_sem, h, hf]
theorem Tryz.build1N (x : En) (u : World) : (Instr.buildSlice 34 1 #[(0, enV x)]).run Tryz.prog u = .ok (.slice (some ⟨u.heap.size, 0, none⟩) 1 1) (u.alloc (.cells #[.int .i64 x.v, .int .i64 x.l, .int .i64 x.h, .bool x.bad] 40)) := by
  simp [go_sem]
/-- Between two of its operations. -/
def DotIN (d : Nat) (a : Act) (W : World) (v v1 v2 : Value) (z : En) (base : Nat) (xs : List En) (B : Nat) (L : Nat → Bool) (act : Act) (u : World) : Prop :=
  a.tmps.size = act.tmps.size ∧ (∀ s, s < d → act.eval (.tmp s) = a.eval (.tmp s)) ∧ (L 3 = true → L 1 = true ∧ L 2 = true) ∧ (L 4 = true → L 3 = true) ∧ (L 5 = true → L 0 = true ∧ L 4 = true) ∧ (L 6 = true → L 5 = true)
    ∧ (L 5 = false → Bl W u ∧ (L 0 = true → act.eval (.tmp d) = v) ∧ (L 1 = true → act.eval (.tmp (d + 1)) = v1) ∧ (L 2 = true → act.eval (.tmp (d + 2)) = v2) ∧ (L 3 = true → act.eval (.tmp (d + 3)) = enV z) ∧ (L 4 = true → ∃ g, act.eval (.tmp (d + 4)) = .slice (some ⟨g, 0, none⟩) 1 1 ∧ Box u g z))
    ∧ (L 5 = true → ∃ u0 w5 g' cap', Bl W u0 ∧ u0.grownBy w5 v.ownBlock ∧ w5.ownsRow base 40 4 (.slice (some ⟨g', 0, none⟩) (xs.length + 1) cap') (xs.length + 1) (xs.flatMap cellsN ++ cellsN z) ∧ (some g' = v.ownBlock ∨ g' = u0.heap.size)
        ∧ (L 6 = false → u = w5 ∧ act.eval (.tmp (d + 5)) = .slice (some ⟨g', 0, none⟩) (xs.length + 1) cap') ∧ (L 6 = true → u = w5.setCell ⟨B, 0, none⟩ (.slice (some ⟨g', 0, none⟩) (xs.length + 1) cap')))
set_option maxHeartbeats 1000000 in
theorem dotAppendN {F : Fence} {m : Nat} {ops : Array Oper} {o0 o1 o2 o3 o4 o5 o6 : Oper} {Q : Exit → Act → World → Prop} {a : Act} {W : World} {id : Nat} (hops : ops = #[o0, o1, o2, o3, o4, o5, o6]) (hlow : lowB ops = true) (d sL fD : Nat) (hsz : d + 6 ≤ a.tmps.size) (hsL : sL < d)
    (g0 : o0.guard = none ∧ o0.dst = some d ∧ o0.op = .load 34 (.tmp sL)) (g1 : o1.guard = none ∧ o1.dst = some (d + 1)) (g2 : o2.guard = none ∧ o2.dst = some (d + 2))
    (g3 : o3.guard = none ∧ o3.dst = some (d + 3) ∧ o3.op = .call { callee := .value (.func fD), args := #[.tmp (d + 1), .tmp (d + 2)], argTypes := #[34, 34] })
    (g4 : o4.guard = none ∧ o4.dst = some (d + 4) ∧ o4.op = .buildSlice 34 1 #[(0, .tmp (d + 3))])
    (g5 : o5.guard = none ∧ o5.dst = some (d + 5) ∧ o5.op = .call { callee := .builtin .append, args := #[.tmp d, .tmp (d + 4)], argTypes := #[34, 34] })
    (g6 : o6.guard = none ∧ o6.dst = none ∧ o6.op = .store 34 (.tmp sL) (.tmp (d + 5)))
    (e3 : (⟨1, .data⟩ : Edge) ∈ o3.after ∧ (⟨2, .data⟩ : Edge) ∈ o3.after) (e4 : (⟨3, .data⟩ : Edge) ∈ o4.after) (e5 : (⟨0, .data⟩ : Edge) ∈ o5.after ∧ (⟨4, .data⟩ : Edge) ∈ o5.after) (e6 : (⟨5, .data⟩ : Edge) ∈ o6.after)
    (v1 v2 : Value) (h1 : ∀ (act : Act) (u : World) (K : Act → World → Prop), (∀ s, s < d → act.eval (.tmp s) = a.eval (.tmp s)) → Bl W u → K (act.put (some (d + 1)) v1) u → Oper.wpIn F m Tryz.prog o1 act u K Q)
    (h2 : ∀ (act : Act) (u : World) (K : Act → World → Prop), (∀ s, s < d → act.eval (.tmp s) = a.eval (.tmp s)) → Bl W u → K (act.put (some (d + 2)) v2) u → Oper.wpIn F m Tryz.prog o2 act u K Q)
    (hF : F.fn fD) (hdep : F.depth.isSome = true → 1 ≤ m) (eg : ∀ args w, (callFunc fD args).run Tryz.prog w = .ok (.enter fD args) w) (z : En)
    (hC : ∀ u, Bl W u → CallsIn F (m - 1) Tryz.prog fD #[v1, v2] u fun e w' => e = .returned (enV z) ∧ Bl u w')
    (B : Nat) (hB : a.eval (.tmp sL) = .pointer (some ⟨B, 0, none⟩)) (v : Value) (hv : Boxed W B 34 v) (base : Nat) (xs : List En) (hown : W.ownsRow base 40 4 v xs.length (xs.flatMap cellsN)) (hlen : xs.length ≤ 100000) (hbase : base ≤ W.heap.size)
    (fin : ∀ act u0 w5 g' cap', Bl W u0 → u0.grownBy w5 v.ownBlock → w5.ownsRow base 40 4 (.slice (some ⟨g', 0, none⟩) (xs.length + 1) cap') (xs.length + 1) (xs.flatMap cellsN ++ cellsN z) → (some g' = v.ownBlock ∨ g' = u0.heap.size) → Q .normal act (w5.setCell ⟨B, 0, none⟩ (.slice (some ⟨g', 0, none⟩) (xs.length + 1) cap'))) :
    (Code.region id ops true).wpIn F m Tryz.prog Q a W := by
  obtain ⟨i0, hi, hz0, hz1, hz2⟩ := info_parts Tryz.info_N
  have fm : Tryz.prog.follows .mixedOrders = true := by kernel_rfl
  refine region_facts fm (lowB_low hlow) (DotIN d a W v v1 v2 z base xs B) ?_ ?_ ?_
  · exact ⟨rfl, fun _ _ => rfl, nofun, nofun, nofun, nofun, fun _ => ⟨(Bl.refl _).drew, nofun, nofun, nofun, nofun, nofun⟩, nofun⟩
  · intro L act u i o ⟨hs, hfr, c3, c4, c5, c6, hpre, hpost⟩ ho hLi hall
    have hlt : i < 7 := by have := (Array.getElem?_eq_some_iff.1 ho).1; rw [hops] at this; simpa using this
    have sv : ∀ (e : Nat) (x : Value), e < act.tmps.size → (act.put (some e) x).eval (.tmp e) = x := fun e x h => eval_put_same h
    have ne5 : (L 5 = true → False) → L 5 = false := fun h => by cases hh : L 5 <;> simp_all
    have fr : ∀ (e : Nat) (x : Value), d ≤ e → ∀ s, s < d → (act.put (some e) x).eval (.tmp s) = a.eval (.tmp s) := fun e x he s hs => by rw [eval_put_other (by omega)]; exact hfr s hs
    rcases (by omega : i = 0 ∨ i = 1 ∨ i = 2 ∨ i = 3 ∨ i = 4 ∨ i = 5 ∨ i = 6) with rfl | rfl | rfl | rfl | rfl | rfl | rfl
    · obtain rfl : o = o0 := by rw [hops] at ho; simpa using ho.symm
      have l5 : L 5 = false := ne5 fun h => by rw [(c5 h).1] at hLi; cases hLi
      obtain ⟨hb, p0, p1, p2, p3, p4⟩ := hpre l5
      refine step_wp ho g0.1 (load_wp _ _ g0.2.2 (v := v) (by rw [hfr _ hsL, hB]; exact Tryz.load1N B v u (boxed_bl hv hb).cell) ?_)
      rw [g0.2.1]
      refine ⟨by rw [size_put]; exact hs, fr _ _ (Nat.le_refl _), by simpa using c3, by simpa using c4, by simp [l5], by simpa using c6, fun _ => ⟨hb, fun _ => sv _ _ (by omega), ?_, ?_, ?_, ?_⟩, by simp [l5]⟩
      all_goals (simp only [Nat.reduceEqDiff, Nat.reduceBEq, Bool.or_false]; intro h; rw [eval_put_other (by omega)])
      · exact p1 h
      · exact p2 h
      · exact p3 h
      · exact p4 h
    · obtain rfl : o = o1 := by rw [hops] at ho; simpa using ho.symm
      have l3 : L 3 = false := by cases hh : L 3 <;> simp_all
      have l4 : L 4 = false := by cases hh : L 4 <;> simp_all
      have l5 : L 5 = false := ne5 fun h => by rw [(c5 h).2] at l4; cases l4
      obtain ⟨hb, p0, p1, p2, p3, p4⟩ := hpre l5
      refine step_wp ho g1.1 (h1 act u _ hfr hb ?_)
      refine ⟨by rw [size_put]; exact hs, fr _ _ (by omega), by simp [l3], by simp [l4], by simp [l5], by simpa using c6, fun _ => ⟨hb, ?_, fun _ => sv _ _ (by omega), ?_, by simp [l3], by simp [l4]⟩, by simp [l5]⟩
      all_goals (simp only [Nat.reduceEqDiff, Nat.reduceBEq, Bool.or_false]; intro h; rw [eval_put_other (by omega)])
      · exact p0 h
      · exact p2 h
    · obtain rfl : o = o2 := by rw [hops] at ho; simpa using ho.symm
      have l3 : L 3 = false := by cases hh : L 3 <;> simp_all
      have l4 : L 4 = false := by cases hh : L 4 <;> simp_all
      have l5 : L 5 = false := ne5 fun h => by rw [(c5 h).2] at l4; cases l4
      obtain ⟨hb, p0, p1, p2, p3, p4⟩ := hpre l5
      refine step_wp ho g2.1 (h2 act u _ hfr hb ?_)
      refine ⟨by rw [size_put]; exact hs, fr _ _ (by omega), by simp [l3], by simp [l4], by simp [l5], by simpa using c6, fun _ => ⟨hb, ?_, ?_, fun _ => sv _ _ (by omega), by simp [l3], by simp [l4]⟩, by simp [l5]⟩
      all_goals (simp only [Nat.reduceEqDiff, Nat.reduceBEq, Bool.or_false]; intro h; rw [eval_put_other (by omega)])
      · exact p0 h
      · exact p1 h
    · obtain rfl : o = o3 := by rw [hops] at ho; simpa using ho.symm
      have l1 : L 1 = true := hall _ e3.1 rfl
      have l2 : L 2 = true := hall _ e3.2 rfl
      have l4 : L 4 = false := by cases hh : L 4 <;> simp_all
      have l5 : L 5 = false := ne5 fun h => by rw [(c5 h).2] at l4; cases l4
      obtain ⟨hb, p0, p1, p2, p3, p4⟩ := hpre l5
      refine step_wp ho g3.1 (call2_wp fD _ _ _ g3.2.2 hF hdep eg (by rw [p1 l1, p2 l2]; exact hC u hb) ?_)
      rintro e w' ⟨rfl, hb'⟩
      refine ⟨_, rfl, ?_⟩
      rw [g3.2.1]
      refine ⟨by rw [size_put]; exact hs, fr _ _ (by omega), by simp [l1, l2], by simp [l4], by simp [l5], by simpa using c6, fun _ => ⟨hb.trans hb', ?_, ?_, ?_, fun _ => sv _ _ (by omega), by simp [l4]⟩, by simp [l5]⟩
      all_goals (simp only [Nat.reduceEqDiff, Nat.reduceBEq, Bool.or_false]; intro h; rw [eval_put_other (by omega)])
      · exact p0 h
      · exact p1 h
      · exact p2 h
    · obtain rfl : o = o4 := by rw [hops] at ho; simpa using ho.symm
      have l3 : L 3 = true := hall _ e4 rfl
      have l5 : L 5 = false := ne5 fun h => by rw [(c5 h).2] at hLi; cases hLi
      obtain ⟨hb, p0, p1, p2, p3, p4⟩ := hpre l5
      refine step_wp ho g4.1 (build_wp _ _ g4.2.2 (by rw [p3 l3]; exact Tryz.build1N z u) ?_)
      rw [g4.2.1]
      refine ⟨by rw [size_put]; exact hs, fr _ _ (by omega), by simpa using c3, by simp [l3], by simp [l5], by simpa using c6, fun _ => ⟨hb.alloc _, ?_, ?_, ?_, ?_, fun _ => ⟨u.heap.size, sv _ _ (by omega), Box.new u z _⟩⟩, by simp [l5]⟩
      all_goals (simp only [Nat.reduceEqDiff, Nat.reduceBEq, Bool.or_false]; intro h; rw [eval_put_other (by omega)])
      · exact p0 h
      · exact p1 h
      · exact p2 h
      · exact p3 h
    · obtain rfl : o = o5 := by rw [hops] at ho; simpa using ho.symm
      have l0 : L 0 = true := hall _ e5.1 rfl
      have l4 : L 4 = true := hall _ e5.2 rfl
      have l6 : L 6 = false := by cases hh : L 6 <;> simp_all
      obtain ⟨hb, p0, p1, p2, p3, p4⟩ := hpre hLi
      obtain ⟨g, hg, bz⟩ := p4 l4
      refine step_wp ho g5.1 (stepIn_append (.tmp d) (.tmp (d + 4)) 34 g5.2.2 base 40 i0 (.agg #[.int .i64 0, .int .i64 0, .int .i64 0, .bool false]) 4 32 Tryz.underlying34 hi hz0 hz1 hz2 rfl (by decide) v xs.length (xs.flatMap cellsN) (p0 l0) (own_blN hown hb) ⟨g, 0, none⟩ 1 1 (cellsN z) hg rfl bz.cells (oneN_cells _) (by unfold maxLen; omega) (by omega) (by have := hb.size; omega) ?_)
      intro v' w5 hown' hgrow hat
      obtain ⟨g', cap', rfl⟩ := ownsRow_succ hown'
      rw [g5.2.1]
      refine ⟨by rw [size_put]; exact hs, fr _ _ (by omega), by simpa using c3, by simpa using c4, by simp [l0, l4], by simp [l6], by simp, fun _ => ⟨u, w5, g', cap', hb, hgrow, hown', ?_, fun _ => ⟨rfl, sv _ _ (by omega)⟩, by simp [l6]⟩⟩
      rcases hat with h | h
      · exact .inl h
      · exact .inr (by simpa [Value.ownBlock] using h)
    · obtain rfl : o = o6 := by rw [hops] at ho; simpa using ho.symm
      have l5 : L 5 = true := hall _ e6 rfl
      obtain ⟨u0, w5, g', cap', k1, k2, k3, k4, k5, _⟩ := hpost l5
      obtain ⟨rfl, ev⟩ := k5 hLi
      have hv5 : Boxed u B 34 v := (boxed_bl hv k1).kept k2 ((boxed_bl hv k1).not_row (by decide) (own_blN hown k1))
      refine step_wp ho g6.1 (store_wp _ _ _ g6.2.2 (by rw [hfr _ hsL, hB, ev]; exact Tryz.store1N B _ _ _ v u hv5.cell hv5.frozen) ?_)
      rw [g6.2.1]
      exact ⟨by rw [size_put]; exact hs, fun s hs => hfr s hs, by simpa using c3, by simpa using c4, by simpa using c5, by simp [l5], by simp [l5], fun _ => ⟨u0, u, g', cap', k1, k2, k3, k4, by simp, fun _ => rfl⟩⟩
  · intro L act u ⟨hs, hfr, c3, c4, c5, c6, hpre, hpost⟩ hL
    have hL' : ∀ j, j < 7 → L j = true := fun j hj => hL j (by rw [hops]; simpa using hj)
    obtain ⟨u0, w5, g', cap', k1, k2, k3, k4, _, k6⟩ := hpost (hL' 5 (by omega))
    rw [k6 (hL' 6 (by omega))]
    exact fin act u0 w5 g' cap' k1 k2 k3 k4
end Go.Proofs.YtbfdkahbnfpabaaGreat

/- Contract of tri's Solve, of fractions (layer 7). Written by genTv.py. -/
namespace Go.Proofs.YtbfdkahbnfpabaaGreat
open Go.RowKit Go.Shelf
set_option linter.unusedSimpArgs false
set_option linter.unusedVariables false
attribute [local go_sem] Oper.semAt_some

/-- What is solved along any rows that come up. -/
def solveLF (f : Nat → Nat → Fr) (b : Nat → Fr) (pre : List RowX) : List Fr := pre.foldl (fun acc x => acc ++ [divR (subR (b x.1) (dotF (rowM x.1 f x.1) acc)) (f x.1 x.1)]) []
theorem solveLF_snoc (f : Nat → Nat → Fr) (b : Nat → Fr) (pre : List RowX) (x : RowX) : solveLF f b (pre ++ [x]) = solveLF f b pre ++ [divR (subR (b x.1) (dotF (rowM x.1 f x.1) (solveLF f b pre))) (f x.1 x.1)] := by
  unfold solveLF
  rw [List.foldl_append]
  rfl
theorem solveLF_fold (f : Nat → Nat → Fr) (b : Nat → Fr) : ∀ (pre : List RowX) (acc : List Fr), (pre.foldl (fun acc (x : RowX) => acc ++ [divR (subR (b x.1) (dotF (rowM x.1 f x.1) acc)) (f x.1 x.1)]) acc) = (pre.map (·.1)).foldl (fun acc i => acc ++ [divR (subR (b i) (dotF (rowM i f i) acc)) (f i i)]) acc
  | [], acc => rfl
  | x :: pre, acc => solveLF_fold f b pre _
theorem solveLF_all (f : Nat → Nat → Fr) (b : Nat → Fr) (n : Nat) (pre : List RowX) (h : pre.map (·.1) = List.range n) : solveLF f b pre = solveTo subR divR dotF f b n := by
  unfold solveLF
  rw [solveLF_fold, h]
  clear h
  induction n with
  | zero => rfl
  | succ n ih =>
    rw [List.range_succ, List.foldl_append, ih]
    rfl
theorem solveLF_len (f : Nat → Nat → Fr) (b : Nat → Fr) (pre : List RowX) : (solveLF f b pre).length = pre.length := by
  suffices h : ∀ (pre : List RowX) (acc : List Fr), (pre.foldl (fun acc (x : RowX) => acc ++ [divR (subR (b x.1) (dotF (rowM x.1 f x.1) acc)) (f x.1 x.1)]) acc).length = acc.length + pre.length by
    have := h pre []
    simpa [solveLF] using this
  intro pre
  induction pre with
  | nil => intro acc; rfl
  | cons x pre ih =>
    intro acc
    rw [List.foldl_cons, ih]
    simp
    omega
set_option maxRecDepth 100000 in
set_option maxHeartbeats 4000000 in
theorem tSolveF (n : Nat) (p : Option Addr) (N cap : Nat) (f : Nat → Nat → Fr) (pb : Option Addr) (cb : Nat) (b : Nat → Fr) (w : World) (h : Mx 3 cellsF w n n p N cap f) (hbr : Rq 3 cellsF w (.slice pb n cb) ((List.range n).map b)) :
    Calls Tryz.prog 16 #[mV n n p N cap, .slice pb n cb] w fun e w' => ∃ p' cap', e = .returned (.tuple #[.slice p' n cap', .bool true]) ∧ Rw 3 cellsF w' (.slice p' n cap') (solveTo subR divR dotF f b n) ∧ Bl w w' := by
  obtain ⟨i0, hi, hz0, hz1, hz2⟩ := info_parts Tryz.info_F
  have fm : Tryz.prog.follows .mixedOrders = true := by kernel_rfl
  have egD := enters_of Tryz.func33 (by kernel_rfl) rfl
  have egS := enters_of Tryz.func124 (by kernel_rfl) rfl
  have egV := enters_of Tryz.func119 (by kernel_rfl) rfl
  refine (callsIn_wide (n := 8)).1 ?_
  have hsq : sqB n n N = true := by unfold sqB; rw [h.fit]; simp
  have hd := h.1
  have hn16 := hd.r2
  have hn1 := hd.r1
  obtain ⟨bg, bo, hpb, hbl, CB⟩ : ∃ bg bo, pb = some ⟨bg, bo, none⟩ ∧ bg < w.heap.size ∧ ∀ i, i < n → ∀ k u, (cellsF (b i))[k]? = some u → w.cell? ⟨bg, bo + i * 3 + k, none⟩ = some u := by
    rcases hbr with ⟨_, _, _, h0, _⟩ | ⟨g, o, cc, e, _, hlt, HX⟩
    · have := congrArg List.length h0
      rw [List.length_map, List.length_range] at this
      simp at this
      omega
    · simp only [Value.slice.injEq] at e
      exact ⟨g, o, e.1, hlt, fun i hi k u hu => HX i _ (by simp [hi]) k u hu⟩
  subst hpb
  have HXm := hideP h
  have HCB := hideP CB
  clear h hbr CB
  obtain ⟨W, hW⟩ : ∃ W, W = (w.alloc (.cells #[.int .i64 n, .int .i64 n, .slice p N cap] 28)).alloc (.cells #[.slice (some ⟨bg, bo, none⟩) n cb] 26) := ⟨_, rfl⟩
  have b0 : Bl w W := by rw [hW]; exact ((Bl.refl _).alloc _).alloc _
  have mx0 : MBox W w.heap.size n n p N cap := by rw [hW]; exact (MBox.new w _ _ _ _ _ _).later ((Bl.refl _).alloc _)
  have bb0 : Boxed W (w.heap.size + 1) 26 (.slice (some ⟨bg, bo, none⟩) n cb) := by
    rw [hW]
    have := Boxed.new (w.alloc (.cells #[.int .i64 n, .int .i64 n, .slice p N cap] 28)) 26 (.slice (some ⟨bg, bo, none⟩) n cb)
    simpa using this
  have HW := hideP hW
  clear hW
  refine callsIn_of_wp_marks Tryz.func16 rfl trivial ?_ rfl
  simp only [Tryz.ntmps16, List.size_toArray, List.length_cons, List.length_nil, Nat.reduceAdd, Nat.reduceSub, Array.replicate_succ, Array.replicate_zero, List.push_toArray, List.append_toArray, List.nil_append, List.cons_append]
  gi_wp2_with fail
  rw [← HW.out]
  obtain ⟨c0, c1, c2, f0, f1, f2, lt⟩ := id mx0
  have sb := bb0.cell
  gi_wp2_with fail
  refine ⟨trivial, ?_⟩
  refine (callsIn_wide.2 (tSquareF _ _ _ _ _ _)).mono ?_
  rintro e w5 ⟨rfl, h5⟩
  rw [hsq]
  have mx5 := mx0.later h5
  have bb5 := boxed_bl bb0 h5
  have bw5 : Bl w w5 := b0.trans h5
  clear c0 c1 c2 f0 f1 f2 lt sb
  obtain ⟨c0, c1, c2, f0, f1, f2, lt⟩ := id mx5
  have sb := bb5.cell
  gi_wp2_with (gi_at_make; refine wpListIn_make_own _ rfl _ _ 26 rfl w5.heap.size 32 i0 (.agg #[.int .i64 0, .int .i64 0, .bool false]) 3 Tryz.underlying26 hi hz0 hz1 .i64 .i64 _ n rfl rfl (by simp) (by rw [hz2]; omega) (by unfold maxLen; omega) (by simp) ?_; intro w6 hown0 hgrow0; have mx6 := mbox_block mx5 (hgrow0.block _ mx5.lt nofun) hgrow0.size; clear c0 c1 c2 f0 f1 f2 lt sb; obtain ⟨c0, c1, c2, f0, f1, f2, lt⟩ := mx6)
  have h56 : Bl w5 w6 := ⟨hgrow0.os, hgrow0.tape, hgrow0.output, hgrow0.size, fun k hk => hgrow0.block k hk nofun⟩
  have hs6 : w5.heap.size ≤ w6.heap.size := hgrow0.size
  obtain ⟨w6b, hw6b⟩ : ∃ w6b, w6b = w6.alloc (.cells #[.slice (some ⟨w5.heap.size, 0, none⟩) 0 n] 26) := ⟨_, rfl⟩
  have h6b : Bl w6 w6b := by rw [hw6b]; exact (Bl.refl _).alloc _
  have hs6b : w6b.heap.size = w6.heap.size + 1 := by rw [hw6b]; simp
  have bl6 : Boxed w6b w6.heap.size 26 (.slice (some ⟨w5.heap.size, 0, none⟩) 0 n) := by rw [hw6b]; exact Boxed.new w6 _ _
  have hown6 : w6b.ownsRow w5.heap.size 32 3 (.slice (some ⟨w5.heap.size, 0, none⟩) 0 n) 0 [] := own_blF hown0 h6b
  have hlt5 : w5.heap.size < w6b.heap.size := by have := (hown6.lt w5.heap.size rfl).2; exact this
  have HW6 := hideP hw6b
  clear hw6b hown0 hgrow0 c0 c1 c2 f0 f1 f2 lt
  rw [← HW6.out]
  refine ⟨trivial, ?_⟩
  refine (callsIn_wide.2 (mAllF _ _ _ _ _ f _ (HXm.out.later ((bw5.trans h56).trans h6b)))).mono ?_
  rintro e w7 ⟨B2, p2, cap5, rfl, hK7, h7⟩
  have HK7 := hideP hK7
  clear hK7
  have hs7 : w6.heap.size + 1 ≤ w7.heap.size := by have := h7.size; omega
  have b57 : Below w5.heap.size w5 w7 := (h56.trans h6b).trans h7
  have bl7 := boxed_bl bl6 h7
  have own7 := own_blF hown6 h7
  clear bl6 hown6
  gi_wp2_with fail
  refine rangeV rfl (by omega) (gf := 68) (lb := #[.pointer (some ⟨B2, 0, none⟩)]) rfl trivial (enters_of Tryz.func68 (by kernel_rfl) rfl)
    (seqMF 7 B2 _ w7.heap.size n n p2 N cap5 f w7 (Nat.le_refl _) HK7.out) (fun x A B h => h.1) (fun h k => h.trans k) (span_b (Nat.le_refl _)) (fun _ => rfl)
    (fun (pre : List RowX) U => (∃ v, Boxed U w6.heap.size 26 v ∧ U.ownsRow w5.heap.size 32 3 v (solveLF f b pre).length ((solveLF f b pre).flatMap cellsF) ∧ (∀ b, v.ownBlock = some b → b < w6b.heap.size ∨ w7.heap.size ≤ b)) ∧ (Below w5.heap.size w5 U ∧ w7.heap.size ≤ U.heap.size))
    (fun _ _ _ => False)
    (OwnFrom.and (Own.from (holdsRow_own w5.heap.size w6.heap.size 26 32 3 (fun pre : List RowX => (solveLF f b pre).length) (fun pre : List RowX => (solveLF f b pre).flatMap cellsF) (fun _ v => ∀ b, v.ownBlock = some b → b < w6b.heap.size ∨ w7.heap.size ≤ b)) _) (OwnFrom.and (ownFrom_below (Nat.le_refl _) b57.size) (own_size _ _)))
    (fun _ _ _ _ _ hs _ _ => hs)
    ⟨⟨_, bl7, own7, fun b hb => by cases hb; exact .inl hlt5⟩, b57, Nat.le_refl _⟩
    (fun a x a' U => Rw 3 cellsF U (rowV n x) (rowM n f x.1) ∧ ((x.1 < n ∧ n ≤ x.2.2) ∧ a' = { tmps := ((((a.tmps.setIfInBounds 25 (.int .i64 x.1)).setIfInBounds 26 (rowV n x)).setIfInBounds 7 (.int .i64 x.1)).setIfInBounds 8 (rowV n x)), defers := [] }))
    (fun x a' _ X Y row hs hg hr => ⟨rw_own hs.1 hg (fun r e => (hr r e).2), hs.2⟩)
    ?assign ?body ?done ?stop
  case assign =>
    rintro l pre x W0 U K' _ ⟨hbU, hxR, hrow, hfr, hcc⟩ hI hK'
    have HK2 := hideP hK'
    have HI := hideP hI
    have HRO := hideP hrow
    clear hK' hI hrow
    gi_wp2
    refine HK2.out _ _ (KeepsFrom.refl _ _) (Span.refl _ _ _) HI.out ⟨HRO.out, ⟨hxR, hcc⟩, ?_⟩
    simp only [List.setIfInBounds_toArray, List.set_cons_zero, List.set_cons_succ]
  case body =>
    rintro l pre x a' U hl' ⟨r, hr'⟩ ⟨⟨v0, hv00, hrow0, hgv⟩, hbU, hsU⟩ ⟨hrx, ⟨hxn, hxc⟩, rfl⟩ hlt
    simp only [List.setIfInBounds_toArray, List.set_cons_zero, List.set_cons_succ]
    have hlen2 : (solveLF f b pre).length ≤ 100000 := by rw [solveLF_len]; omega
    have hne0 : some w6.heap.size ≠ v0.ownBlock := hv00.not_row (by decide) hrow0
    have hrw := Rw.of_own cellsF_len hrow0
    obtain ⟨rb, ro, hp1, hrl, hrc⟩ := rw_cells7 hrx (show 0 < n by omega)
    have hb5 := b57.size
    have hcut : ¬ x.2.2 < x.1 := by omega
    have bUW : Bl w U := bw5.trans hbU
    have bb1 := boxed_bl bb5 (show Bl w5 U from hbU)
    obtain ⟨y, hy⟩ : ∃ y, y = subR (b x.1) (dotF (rowM x.1 f x.1) (solveLF f b pre)) := ⟨_, rfl⟩
    obtain ⟨z, hz⟩ : ∃ z, z = divR y (f x.1 x.1) := ⟨_, rfl⟩
    have XS := hideP (fun u => by have := rsub_any (b x.1) (dotF (rowM x.1 f x.1) (solveLF f b pre)) u; rw [← hy] at this; exact this)
    have ZS := hideP (fun u => by have := rdiv_any y (f x.1 x.1) u; rw [← hz] at this; exact this)
    have HSN := hideP (show solveLF f b (pre ++ [x]) = solveLF f b pre ++ [z] by rw [solveLF_snoc, hz, hy])
    clear hy hz
    have q0 : ∀ u, Bl U u → u.cell? ⟨bg, bo + x.1 * 3, none⟩ = some (.int .i64 (b x.1).n) := fun u hu => (bl_cell (bUW.trans hu) _ _ hbl).trans (HCB.out x.1 hxn 0 _ rfl)
    have q1 : ∀ u, Bl U u → u.cell? ⟨bg, bo + x.1 * 3 + 1, none⟩ = some (.int .i64 (b x.1).d) := fun u hu => (bl_cell (bUW.trans hu) _ _ hbl).trans (HCB.out x.1 hxn 1 _ rfl)
    have q2 : ∀ u, Bl U u → u.cell? ⟨bg, bo + x.1 * 3 + 2, none⟩ = some (.bool (b x.1).bad) := fun u hu => (bl_cell (bUW.trans hu) _ _ hbl).trans (HCB.out x.1 hxn 2 _ rfl)
    have y0 : ∀ u, Bl U u → u.cell? ⟨rb, ro + x.1 * 3, none⟩ = some (.int .i64 (f x.1 x.1).n) := fun u hu => (bl_cell hu _ _ hrl).trans (hrc x.1 _ (rowM_get f x.1 hxn) 0 _ rfl)
    have y1 : ∀ u, Bl U u → u.cell? ⟨rb, ro + x.1 * 3 + 1, none⟩ = some (.int .i64 (f x.1 x.1).d) := fun u hu => (bl_cell hu _ _ hrl).trans (hrc x.1 _ (rowM_get f x.1 hxn) 1 _ rfl)
    have y2 : ∀ u, Bl U u → u.cell? ⟨rb, ro + x.1 * 3 + 2, none⟩ = some (.bool (f x.1 x.1).bad) := fun u hu => (bl_cell hu _ _ hrl).trans (hrc x.1 _ (rowM_get f x.1 hxn) 2 _ rfl)
    gi_wp2_with fail
    refine (region_q fm [some 27, some 28, some 29, some 30, some 31, some 32, some 33, some 34, some 35, some 36, some 37, some 9, none] (fun _ => false) 12 (by kernel_rfl) (by rfl)
      (fun j v u => match j with | 0 => v = .slice (some ⟨bg, bo, none⟩) n cb | 1 => v = .int .i64 x.1 | 2 => v = .pointer (some ⟨bg, bo + x.1 * 3, none⟩) | 3 => v = frV (b x.1) | 4 => v = .iface 32 (frV (b x.1)) | 5 => v = rowV n x | 6 => v = .int .i64 x.1 | 7 => ∃ q c, v = .slice q x.1 c ∧ Rw 3 cellsF u (.slice q x.1 c) (rowM x.1 f x.1) | 8 => v = v0 | 9 => v = frV (dotF (rowM x.1 f x.1) (solveLF f b pre)) | 10 => v = frV y | 11 => ∃ bb, v = .pointer (some ⟨bb, 0, none⟩) ∧ U.heap.size ≤ bb ∧ FBox u bb zeroR | _ => False)
      (by
        intro j v u u' hb h
        split at h <;> first | exact h | (obtain ⟨q, c, e, h1⟩ := h; exact ⟨q, c, e, h1.later hb⟩) | (obtain ⟨bb, e, h1, h2⟩ := h; exact ⟨bb, e, h1, h2.later hb⟩)) (fun vs u0 u => ∃ bb, vs 11 = .pointer (some ⟨bb, 0, none⟩) ∧ U.heap.size ≤ bb ∧ FBox u bb y ∧ Bl U u) ?step ?still ?store ?fin)
    case step =>
      intro j o t act u ho hdt hpu hsz hu hfr hin
      have hj : j < 13 := (Array.getElem?_eq_some_iff.1 ho).1
      have sb := (boxed_bl bb1 hu).cell
      have e0 := q0 u hu; have e1 := q1 u hu; have e2 := q2 u hu
      rcases (by omega : j = 0 ∨ j = 1 ∨ j = 2 ∨ j = 3 ∨ j = 4 ∨ j = 5 ∨ j = 6 ∨ j = 7 ∨ j = 8 ∨ j = 9 ∨ j = 10 ∨ j = 11 ∨ j = 12) with rfl | rfl | rfl | rfl | rfl | rfl | rfl | rfl | rfl | rfl | rfl | rfl | rfl
      · simp only [List.getElem?_toArray, List.getElem?_cons_zero, List.getElem?_cons_succ, Option.some.injEq] at ho
        subst ho
        obtain rfl := Option.some.inj hdt
        have i3 : act.eval (.tmp (3 : Nat)) = .pointer (some ⟨w.heap.size + 1, 0, none⟩) := hfr 3 (by decide)
        exact plain_wp (by intro c h; cases h) (fun _ _ => trivial) (by simp only [execOp, i3, evalC, evalF, evalG]; simp [go_sem, sb]) ⟨_, rfl, rfl, Bl.refl _⟩
      · simp only [List.getElem?_toArray, List.getElem?_cons_zero, List.getElem?_cons_succ, Option.some.injEq] at ho
        subst ho
        obtain rfl := Option.some.inj hdt
        have i7 : act.eval (.tmp (7 : Nat)) = .int .i64 x.1 := hfr 7 (by decide)
        exact plain_wp (by intro c h; cases h) (fun _ _ => trivial) (by simp only [execOp, i7, evalC, evalF, evalG]; simp [go_sem]) ⟨_, rfl, rfl, Bl.refl _⟩
      · simp only [List.getElem?_toArray, List.getElem?_cons_zero, List.getElem?_cons_succ, Option.some.injEq] at ho
        subst ho
        obtain rfl := Option.some.inj hdt
        have i27 : (act.eval (.tmp (27 : Nat))) = .slice (some ⟨bg, bo, none⟩) n cb := hin ⟨0, .data⟩ (by simp) rfl 27 rfl
        have i28 : (act.eval (.tmp (28 : Nat))) = .int .i64 x.1 := hin ⟨1, .data⟩ (by simp) rfl 28 rfl
        exact plain_wp (by intro c h; cases h) (fun _ _ => trivial) (by simp only [execOp, i27, i28]; simp [go_sem, hxn]) ⟨_, rfl, rfl, Bl.refl _⟩
      · simp only [List.getElem?_toArray, List.getElem?_cons_zero, List.getElem?_cons_succ, Option.some.injEq] at ho
        subst ho
        obtain rfl := Option.some.inj hdt
        have i29 : (act.eval (.tmp (29 : Nat))) = .pointer (some ⟨bg, bo + x.1 * 3, none⟩) := hin ⟨2, .data⟩ (by simp) rfl 29 rfl
        exact plain_wp (by intro c h; cases h) (fun _ _ => trivial) (by simp only [execOp, i29]; simp [go_sem, e0, e1, e2]) ⟨_, rfl, rfl, Bl.refl _⟩
      · simp only [List.getElem?_toArray, List.getElem?_cons_zero, List.getElem?_cons_succ, Option.some.injEq] at ho
        subst ho
        obtain rfl := Option.some.inj hdt
        have i30 : (act.eval (.tmp (30 : Nat))) = frV (b x.1) := hin ⟨3, .data⟩ (by simp) rfl 30 rfl
        exact plain_wp (by intro c h; cases h) (fun _ _ => trivial) (by simp only [execOp, i30, evalC, evalF, evalG]; simp [go_sem]) ⟨_, rfl, rfl, Bl.refl _⟩
      · simp only [List.getElem?_toArray, List.getElem?_cons_zero, List.getElem?_cons_succ, Option.some.injEq] at ho
        subst ho
        obtain rfl := Option.some.inj hdt
        have i8 : act.eval (.tmp (8 : Nat)) = rowV n x := hfr 8 (by decide)
        exact plain_wp (by intro c h; cases h) (fun _ _ => trivial) (by simp only [execOp, i8, evalC, evalF, evalG]; simp [go_sem]) ⟨_, rfl, rfl, Bl.refl _⟩
      · simp only [List.getElem?_toArray, List.getElem?_cons_zero, List.getElem?_cons_succ, Option.some.injEq] at ho
        subst ho
        obtain rfl := Option.some.inj hdt
        have i7 : act.eval (.tmp (7 : Nat)) = .int .i64 x.1 := hfr 7 (by decide)
        exact plain_wp (by intro c h; cases h) (fun _ _ => trivial) (by simp only [execOp, i7, evalC, evalF, evalG]; simp [go_sem]) ⟨_, rfl, rfl, Bl.refl _⟩
      · simp only [List.getElem?_toArray, List.getElem?_cons_zero, List.getElem?_cons_succ, Option.some.injEq] at ho
        subst ho
        obtain rfl := Option.some.inj hdt
        have i32 : (act.eval (.tmp (32 : Nat))) = rowV n x := hin ⟨5, .data⟩ (by simp) rfl 32 rfl
        have i33 : (act.eval (.tmp (33 : Nat))) = .int .i64 x.1 := hin ⟨6, .data⟩ (by simp) rfl 33 rfl
        exact plain_wp (by intro c h; cases h) (fun _ _ => trivial) (by simp only [execOp, i32, i33, Option.map_some, Option.map_none]; simp [go_sem, hcut]) ⟨_, rfl, ⟨_, _, rfl, rw_row7 (hrx.later hu) (by omega)⟩, Bl.refl _⟩
      · simp only [List.getElem?_toArray, List.getElem?_cons_zero, List.getElem?_cons_succ, Option.some.injEq] at ho
        subst ho
        obtain rfl := Option.some.inj hdt
        have i6 : act.eval (.tmp (6 : Nat)) = .pointer (some ⟨w6.heap.size, 0, none⟩) := hfr 6 (by decide)
        exact load_wp _ _ rfl (by rw [i6]; exact Tryz.load1F w6.heap.size _ u (boxed_bl hv00 hu).cell) ⟨_, rfl, rfl, Bl.refl _⟩
      · simp only [List.getElem?_toArray, List.getElem?_cons_zero, List.getElem?_cons_succ, Option.some.injEq] at ho
        subst ho
        obtain rfl := Option.some.inj hdt
        have i34 : ∃ q c, (act.eval (.tmp (34 : Nat))) = .slice q x.1 c ∧ Rw 3 cellsF u (.slice q x.1 c) (rowM x.1 f x.1) := hin ⟨7, .data⟩ (by simp) rfl 34 rfl
        have i35 : (act.eval (.tmp (35 : Nat))) = v0 := hin ⟨8, .data⟩ (by simp) rfl 35 rfl
        obtain ⟨q1, c1', e1, hr1⟩ := i34
        refine enter_wp 33 #[.slice q1 x.1 c1', v0] (by intro c h; cases h) (fun _ _ => trivial) (by simp only [execOp, evalC, evalF, evalG, resolve, e1, i35, List.map_toArray, List.map_cons, List.map_nil]; simp [invoke, egD, Result.andThen, go_sem]) (by intro h; cases h) (CallsIn.inRound l (callsIn_wide.2 (vDotF _ _ (rowM x.1 f x.1) (solveLF f b pre) u hr1.q (hrw.later hu).q (by rw [rowM_len]; omega) (by omega)))) ?_
        rintro e w' ⟨rfl, hb⟩
        exact ⟨_, rfl, _, rfl, rfl, hb⟩
      · simp only [List.getElem?_toArray, List.getElem?_cons_zero, List.getElem?_cons_succ, Option.some.injEq] at ho
        subst ho
        obtain rfl := Option.some.inj hdt
        have i31 : (act.eval (.tmp (31 : Nat))) = .iface 32 (frV (b x.1)) := hin ⟨4, .data⟩ (by simp) rfl 31 rfl
        have i36 : (act.eval (.tmp (36 : Nat))) = frV (dotF (rowM x.1 f x.1) (solveLF f b pre)) := hin ⟨9, .data⟩ (by simp) rfl 36 rfl
        have iv := Tryz.mSubF
        refine enter_wp 124 #[frV (b x.1), frV (dotF (rowM x.1 f x.1) (solveLF f b pre))] (by intro c h; cases h) (fun _ _ => trivial) (by simp only [execOp, evalC, evalF, evalG, resolve, i31, i36, List.map_toArray, List.map_cons, List.map_nil]; simp [invoke, iv, egS, Result.andThen, go_sem]) (by intro h; cases h) (CallsIn.inRound l (callsIn_wide.2 (XS.out u))) ?_
        rintro e w' ⟨rfl, hb⟩
        exact ⟨_, rfl, _, rfl, rfl, hb⟩
      · simp only [List.getElem?_toArray, List.getElem?_cons_zero, List.getElem?_cons_succ, Option.some.injEq] at ho
        subst ho
        obtain rfl := Option.some.inj hdt
        exact plain_wp (by intro c h; cases h) (fun _ _ => trivial) (w' := u.alloc (.cells #[.int .i64 0, .int .i64 0, .bool false] 32)) (v := .pointer (some ⟨u.heap.size, 0, none⟩)) (by simp only [execOp]; simp [go_sem]) ⟨_, rfl, ⟨u.heap.size, rfl, hu.size, FBox.new u zeroR _⟩, (Bl.refl _).alloc _⟩
      · simp only [List.getElem?_toArray, List.getElem?_cons_zero, List.getElem?_cons_succ, Option.some.injEq] at ho
        subst ho
        cases hdt
    case still =>
      intro j o t act u0 u ho hdt hpu
      cases hpu
    case store =>
      intro o act u vs ho hsz hu hfr hin
      simp only [List.getElem?_toArray, List.getElem?_cons_zero, List.getElem?_cons_succ, Option.some.injEq] at ho
      subst ho
      obtain ⟨i9, k9⟩ : act.eval (.tmp (9 : Nat)) = vs 11 ∧ (∃ bb, (vs 11) = .pointer (some ⟨bb, 0, none⟩) ∧ U.heap.size ≤ bb ∧ FBox u bb zeroR) := hin 11 9 rfl rfl
      obtain ⟨i37, k37⟩ : act.eval (.tmp (37 : Nat)) = vs 10 ∧ ((vs 10) = frV y) := hin 10 37 rfl rfl
      obtain ⟨bb, e1, hbb, bx⟩ := k9
      rw [e1] at i9
      rw [k37] at i37
      obtain ⟨c0, c1, c2, f0, f1, f2, ltb⟩ := id bx
      exact skip_wp (by intro c h; cases h) (fun _ _ => trivial) (by simp only [execOp, i9, i37]; simp [go_sem, c0, f0, c1, f1, c2, f2]) ⟨rfl, bb, e1, hbb, bx.fill y, Bl.set3 hu hbb _ _ _⟩
    case fin =>
      intro vs vb u0 u hu hin hps
      have a0 := hin 0 27 rfl
      have a1 := hin 1 28 rfl
      have a2 := hin 2 29 rfl
      have a3 := hin 3 30 rfl
      have a4 := hin 4 31 rfl
      have a5 := hin 5 32 rfl
      have a6 := hin 6 33 rfl
      have a7 := hin 7 34 rfl
      have a8 := hin 8 35 rfl
      have a9 := hin 9 36 rfl
      have a10 := hin 10 37 rfl
      have a11 := hin 11 9 rfl
      simp only [putL, Act.put, List.setIfInBounds_toArray, List.set_cons_zero, List.set_cons_succ, Nat.zero_add, Nat.reduceAdd, Nat.reduceBEq, Bool.or_false, Bool.or_true, Bool.false_or, Bool.true_or, Bool.false_eq_true, if_false, if_true, reduceIte, Nat.reduceEqDiff, beq_self_eq_true, Bool.or_self] at a0 a1 a2 a3 a4 a5 a6 a7 a8 a9 a10 a11 ⊢
      rw [if_pos (by decide)] at hps
      simp only [a0, a1, a2, a3, a4, a5, a6, a8, a9, a10]
      obtain ⟨bb, e11, hbb, bxy, hbw⟩ := hps
      simp only [e11]
      clear a7 a11
      have hv0 := boxed_bl hv00 hbw
      have hrow := own_blF hrow0 hbw
      gi_wp2_with fail
      refine (region_qa fm [some 38, some 39, some 40, some 41, some 42, some 43, some 44, some 45, some 46, some 47, none] 9 (by kernel_rfl) (by rfl)
      (fun j v u => match j with | 0 => v = v0 | 1 => v = frV y | 2 => v = .iface 32 (frV y) | 3 => v = rowV n x | 4 => v = .int .i64 x.1 | 5 => v = .pointer (some ⟨rb, ro + x.1 * 3, none⟩) | 6 => v = frV (f x.1 x.1) | 7 => v = frV z | 8 => ∃ gz, v = .slice (some ⟨gz, 0, none⟩) 1 1 ∧ FBox u gz z | _ => False)
      (by
        intro j v u u' hb h
        split at h <;> first | exact h | (obtain ⟨b, e, h1⟩ := h; exact ⟨b, e, h1.later hb⟩)) (fun vs v u0 u => ∃ g' cap', v = .slice (some ⟨g', 0, none⟩) ((solveLF f b pre).length + 1) cap' ∧ u0.grownBy u v0.ownBlock ∧ u.ownsRow w5.heap.size 32 3 (.slice (some ⟨g', 0, none⟩) ((solveLF f b pre).length + 1) cap') ((solveLF f b pre).length + 1) ((solveLF f b pre).flatMap cellsF ++ cellsF z) ∧ (some g' = v0.ownBlock ∨ g' = u0.heap.size)) (fun vs v u0 u => ∃ wz g' cap', u = wz.setCell ⟨w6.heap.size, 0, none⟩ (.slice (some ⟨g', 0, none⟩) ((solveLF f b pre).length + 1) cap') ∧ u0.grownBy wz v0.ownBlock ∧ wz.ownsRow w5.heap.size 32 3 (.slice (some ⟨g', 0, none⟩) ((solveLF f b pre).length + 1) cap') ((solveLF f b pre).length + 1) ((solveLF f b pre).flatMap cellsF ++ cellsF z) ∧ (some g' = v0.ownBlock ∨ g' = u0.heap.size)) ?step ?app ?store ?fin)
      case step =>
        intro j o t act u ho hdt hjs hsz hu hfr hin
        have e0 := y0 u (hbw.trans hu); have e1 := y1 u (hbw.trans hu); have e2 := y2 u (hbw.trans hu)
        rcases (by omega : j = 0 ∨ j = 1 ∨ j = 2 ∨ j = 3 ∨ j = 4 ∨ j = 5 ∨ j = 6 ∨ j = 7 ∨ j = 8) with rfl | rfl | rfl | rfl | rfl | rfl | rfl | rfl | rfl
        · simp only [List.getElem?_toArray, List.getElem?_cons_zero, List.getElem?_cons_succ, Option.some.injEq] at ho
          subst ho
          obtain rfl := Option.some.inj hdt
          have i6 : act.eval (.tmp (6 : Nat)) = .pointer (some ⟨w6.heap.size, 0, none⟩) := hfr 6 (by decide)
          exact load_wp _ _ rfl (by rw [i6]; exact Tryz.load1F w6.heap.size _ u (boxed_bl hv0 hu).cell) ⟨_, rfl, rfl, Bl.refl _⟩
        · simp only [List.getElem?_toArray, List.getElem?_cons_zero, List.getElem?_cons_succ, Option.some.injEq] at ho
          subst ho
          obtain rfl := Option.some.inj hdt
          have i9 : act.eval (.tmp (9 : Nat)) = .pointer (some ⟨bb, 0, none⟩) := hfr 9 (by decide)
          obtain ⟨c0, c1, c2, f0, f1, f2, ltb⟩ := bxy.later hu
          exact plain_wp (by intro c h; cases h) (fun _ _ => trivial) (by simp only [execOp, i9]; simp [go_sem, c0, c1, c2]) ⟨_, rfl, rfl, Bl.refl _⟩
        · simp only [List.getElem?_toArray, List.getElem?_cons_zero, List.getElem?_cons_succ, Option.some.injEq] at ho
          subst ho
          obtain rfl := Option.some.inj hdt
          have i39 : (act.eval (.tmp (39 : Nat))) = frV y := hin ⟨1, .data⟩ (by simp) rfl 39 rfl
          exact plain_wp (by intro c h; cases h) (fun _ _ => trivial) (by simp only [execOp, i39, evalC, evalF, evalG]; simp [go_sem]) ⟨_, rfl, rfl, Bl.refl _⟩
        · simp only [List.getElem?_toArray, List.getElem?_cons_zero, List.getElem?_cons_succ, Option.some.injEq] at ho
          subst ho
          obtain rfl := Option.some.inj hdt
          have i8 : act.eval (.tmp (8 : Nat)) = rowV n x := hfr 8 (by decide)
          exact plain_wp (by intro c h; cases h) (fun _ _ => trivial) (by simp only [execOp, i8, evalC, evalF, evalG]; simp [go_sem]) ⟨_, rfl, rfl, Bl.refl _⟩
        · simp only [List.getElem?_toArray, List.getElem?_cons_zero, List.getElem?_cons_succ, Option.some.injEq] at ho
          subst ho
          obtain rfl := Option.some.inj hdt
          have i7 : act.eval (.tmp (7 : Nat)) = .int .i64 x.1 := hfr 7 (by decide)
          exact plain_wp (by intro c h; cases h) (fun _ _ => trivial) (by simp only [execOp, i7, evalC, evalF, evalG]; simp [go_sem]) ⟨_, rfl, rfl, Bl.refl _⟩
        · simp only [List.getElem?_toArray, List.getElem?_cons_zero, List.getElem?_cons_succ, Option.some.injEq] at ho
          subst ho
          obtain rfl := Option.some.inj hdt
          have i41 : (act.eval (.tmp (41 : Nat))) = rowV n x := hin ⟨3, .data⟩ (by simp) rfl 41 rfl
          have i42 : (act.eval (.tmp (42 : Nat))) = .int .i64 x.1 := hin ⟨4, .data⟩ (by simp) rfl 42 rfl
          exact plain_wp (by intro c h; cases h) (fun _ _ => trivial) (by simp only [execOp, i41, i42, rowV, hp1]; simp [go_sem, hxn]) ⟨_, rfl, rfl, Bl.refl _⟩
        · simp only [List.getElem?_toArray, List.getElem?_cons_zero, List.getElem?_cons_succ, Option.some.injEq] at ho
          subst ho
          obtain rfl := Option.some.inj hdt
          have i43 : (act.eval (.tmp (43 : Nat))) = .pointer (some ⟨rb, ro + x.1 * 3, none⟩) := hin ⟨5, .data⟩ (by simp) rfl 43 rfl
          exact plain_wp (by intro c h; cases h) (fun _ _ => trivial) (by simp only [execOp, i43]; simp [go_sem, e0, e1, e2]) ⟨_, rfl, rfl, Bl.refl _⟩
        · simp only [List.getElem?_toArray, List.getElem?_cons_zero, List.getElem?_cons_succ, Option.some.injEq] at ho
          subst ho
          obtain rfl := Option.some.inj hdt
          have i40 : (act.eval (.tmp (40 : Nat))) = .iface 32 (frV y) := hin ⟨2, .data⟩ (by simp) rfl 40 rfl
          have i44 : (act.eval (.tmp (44 : Nat))) = frV (f x.1 x.1) := hin ⟨6, .data⟩ (by simp) rfl 44 rfl
          have iv := Tryz.mDivF
          refine enter_wp 119 #[frV y, frV (f x.1 x.1)] (by intro c h; cases h) (fun _ _ => trivial) (by simp only [execOp, evalC, evalF, evalG, resolve, i40, i44, List.map_toArray, List.map_cons, List.map_nil]; simp [invoke, iv, egV, Result.andThen, go_sem]) (by intro h; cases h) (CallsIn.inRound l (callsIn_wide.2 (ZS.out u))) ?_
          rintro e w' ⟨rfl, hb⟩
          exact ⟨_, rfl, _, rfl, rfl, hb⟩
        · simp only [List.getElem?_toArray, List.getElem?_cons_zero, List.getElem?_cons_succ, Option.some.injEq] at ho
          subst ho
          obtain rfl := Option.some.inj hdt
          have i45 : (act.eval (.tmp (45 : Nat))) = frV z := hin ⟨7, .data⟩ (by simp) rfl 45 rfl
          refine build_wp _ _ rfl (by rw [i45]; exact Tryz.build1F _ u) ?_
          exact ⟨_, rfl, ⟨u.heap.size, rfl, FBox.new u _ _⟩, (Bl.refl _).alloc _⟩
      case app =>
        intro o t act u vs ho hdt hsz hu hfr hin
        simp only [List.getElem?_toArray, List.getElem?_cons_zero, List.getElem?_cons_succ, Option.some.injEq] at ho
        subst ho
        obtain rfl := Option.some.inj hdt
        obtain ⟨i38, k38⟩ : act.eval (.tmp (38 : Nat)) = vs 0 ∧ ((vs 0) = v0) := hin 0 38 (by omega) rfl
        obtain ⟨i46, k46⟩ : act.eval (.tmp (46 : Nat)) = vs 8 ∧ (∃ gz, (vs 8) = .slice (some ⟨gz, 0, none⟩) 1 1 ∧ FBox u gz z) := hin 8 46 (by omega) rfl
        obtain ⟨gz, eg, bz⟩ := k46
        rw [eg] at i46
        rw [k38] at i38
        refine stepIn_append (.tmp (38 : Nat)) (.tmp (46 : Nat)) 26 rfl w5.heap.size 32 i0 (.agg #[.int .i64 0, .int .i64 0, .bool false]) 3 24 Tryz.underlying26 hi hz0 hz1 hz2 rfl (by decide) v0 (solveLF f b pre).length ((solveLF f b pre).flatMap cellsF) i38 (own_blF hrow hu) ⟨gz, 0, none⟩ 1 1 (cellsF z) i46 rfl bz.cells (oneF_cells _) (by unfold maxLen; omega) (by omega) (by have := hu.size; have := hbw.size; omega) ?_
        intro v' w5 hown' hgrow hat
        obtain ⟨g', cap', rfl⟩ := ownsRow_succ hown'
        refine ⟨_, rfl, g', cap', rfl, hgrow, hown', ?_⟩
        rcases hat with h | h
        · exact .inl h
        · exact .inr (by simpa [Value.ownBlock] using h)
      case store =>
        intro o act u0 u vs v ho hsz hu hfr hin hv hpa
        simp only [List.getElem?_toArray, List.getElem?_cons_zero, List.getElem?_cons_succ, Option.some.injEq] at ho
        subst ho
        have i6 : act.eval (.tmp (6 : Nat)) = .pointer (some ⟨w6.heap.size, 0, none⟩) := hfr 6 (by decide)
        have i47 : act.eval (.tmp (47 : Nat)) = v := hv 47 rfl
        obtain ⟨g', cap', rfl, hgrow, hown', hat⟩ := hpa
        have hbu := (boxed_bl hv0 hu).kept hgrow hne0
        exact skip_wp (by intro c h; cases h) (fun _ _ => trivial) (by simp only [execOp, i6, i47]; simp [go_sem, hbu.cell, hbu.frozen]) ⟨rfl, u, g', cap', rfl, hgrow, hown', hat⟩
      case fin =>
        intro vs v u0 u hu hin hpb
        obtain ⟨w8, g', cap', rfl, k2, k3, k4⟩ := hpb
        have k1 := hbw.trans hu
        clear hin
        have hvu := boxed_bl hv00 k1
        have hru := own_blF hrow0 k1
        have hsu := k1.size
        have hu5 : w5.heap.size ≤ u0.heap.size := by omega
        obtain ⟨hv5, hv6, hr6, hk6, hb6⟩ := boxed_appended hvu (by decide) hru hu5 (by omega) k3 k2
        have hg8 := k2.size
        refine ⟨(k1.keeps _).trans (hk6.from _), span_appended k1 (by omega) hgv k2 (by omega), ⟨_, hv6, ?_, ?_⟩, ?_, ?_⟩
        · rw [HSN.out]
          simpa [List.flatMap_append] using hr6
        · intro b hb
          have hb' : g' = b := by cases hb; rfl
          subst hb'
          rcases k4 with h | h
          · exact hgv _ h.symm
          · exact .inr (by omega)
        · exact hbU.trans ((k1.mono (by omega)).trans hb6)
        · simp; omega
  case done =>
    rintro Dm zs U hD hS ⟨⟨v, hv, hrow, _⟩, hb5, hs7'⟩ hKD
    have e := solveLF_all f b n zs hS
    rw [e] at hrow
    have RW := Rw.of_own cellsF_len (ownsRow_putObj hrow (.deferred none) hKD rfl)
    obtain ⟨p', cap', hv', _, _⟩ := RW.cut
    rw [solveTo_len] at hv'
    subst hv'
    have hcl := hv.cell
    have hbw : Bl w U := bw5.trans hb5
    have HRW := hideP RW
    have HKD := hideP hKD
    clear hrow RW hKD hv e
    gi_wp2
    refine ⟨by simp, .inl ⟨_, _, rfl, run_takeDeferred HKD.out, ?_⟩⟩
    exact ⟨_, by simp [results, Tryz.results16, go_sem], p', cap', rfl, HRW.out, Below.trans hbw (belowK_b (w := w) (Nat.le_refl _) U Dm _ _ (by have := bw5.size; have := b57.size; omega) HKD.out rfl rfl)⟩
  case stop =>
    rintro D' c pre U _ _ h _
    exact h.elim
theorem tSolveF_len (n : Nat) (p : Option Addr) (N cap : Nat) (f : Nat → Nat → Fr) (pb : Option Addr) (lb cb : Nat) (w : World) (h : Mx 3 cellsF w n n p N cap f) (hlb : lb ≠ n) :
    Calls Tryz.prog 16 #[mV n n p N cap, .slice pb lb cb] w fun e w' => e = .returned (.tuple #[.slice none 0 0, .bool false]) ∧ Bl w w' := by
  have hsq : sqB n n N = true := by unfold sqB; rw [h.fit]; simp
  clear h
  have hne : ((lb : Int) != (n : Int)) = true := by simp; omega
  obtain ⟨W, hW⟩ : ∃ W, W = (w.alloc (.cells #[.int .i64 n, .int .i64 n, .slice p N cap] 28)).alloc (.cells #[.slice pb lb cb] 26) := ⟨_, rfl⟩
  have b0 : Bl w W := by rw [hW]; exact ((Bl.refl _).alloc _).alloc _
  have mx0 : MBox W w.heap.size n n p N cap := by rw [hW]; exact (MBox.new w _ _ _ _ _ _).later ((Bl.refl _).alloc _)
  have bb0 : Boxed W (w.heap.size + 1) 26 (.slice pb lb cb) := by
    rw [hW]
    have := Boxed.new (w.alloc (.cells #[.int .i64 n, .int .i64 n, .slice p N cap] 28)) 26 (.slice pb lb cb)
    simpa using this
  have HW := hideP hW
  clear hW
  go_enter Tryz.func16, Tryz.ntmps16
  go_wp2_with fail
  rw [← HW.out]
  refine (tSquareF _ _ _ _ _ _).mono ?_
  rintro e w1 ⟨rfl, h1⟩
  rw [hsq]
  obtain ⟨c0, c1, c2, f0, f1, f2, lt⟩ := mx0.later h1
  have sb := (boxed_bl bb0 h1).cell
  go_wp2
  simp [bodyPost, results, Tryz.results16, go_sem]
  exact b0.trans h1
end Go.Proofs.YtbfdkahbnfpabaaGreat

/- Contract of tri's Solve, of enclosed numbers (layer 7). Written by genTv.py. -/
namespace Go.Proofs.YtbfdkahbnfpabaaGreat
open Go.RowKit Go.Shelf
set_option linter.unusedSimpArgs false
set_option linter.unusedVariables false
attribute [local go_sem] Oper.semAt_some

/-- What is solved along any rows that come up. -/
def solveLN (f : Nat → Nat → En) (b : Nat → En) (pre : List RowX) : List En := pre.foldl (fun acc x => acc ++ [divE (subE (b x.1) (dotN (rowM x.1 f x.1) acc)) (f x.1 x.1)]) []
theorem solveLN_snoc (f : Nat → Nat → En) (b : Nat → En) (pre : List RowX) (x : RowX) : solveLN f b (pre ++ [x]) = solveLN f b pre ++ [divE (subE (b x.1) (dotN (rowM x.1 f x.1) (solveLN f b pre))) (f x.1 x.1)] := by
  unfold solveLN
  rw [List.foldl_append]
  rfl
theorem solveLN_fold (f : Nat → Nat → En) (b : Nat → En) : ∀ (pre : List RowX) (acc : List En), (pre.foldl (fun acc (x : RowX) => acc ++ [divE (subE (b x.1) (dotN (rowM x.1 f x.1) acc)) (f x.1 x.1)]) acc) = (pre.map (·.1)).foldl (fun acc i => acc ++ [divE (subE (b i) (dotN (rowM i f i) acc)) (f i i)]) acc
  | [], acc => rfl
  | x :: pre, acc => solveLN_fold f b pre _
theorem solveLN_all (f : Nat → Nat → En) (b : Nat → En) (n : Nat) (pre : List RowX) (h : pre.map (·.1) = List.range n) : solveLN f b pre = solveTo subE divE dotN f b n := by
  unfold solveLN
  rw [solveLN_fold, h]
  clear h
  induction n with
  | zero => rfl
  | succ n ih =>
    rw [List.range_succ, List.foldl_append, ih]
    rfl
theorem solveLN_len (f : Nat → Nat → En) (b : Nat → En) (pre : List RowX) : (solveLN f b pre).length = pre.length := by
  suffices h : ∀ (pre : List RowX) (acc : List En), (pre.foldl (fun acc (x : RowX) => acc ++ [divE (subE (b x.1) (dotN (rowM x.1 f x.1) acc)) (f x.1 x.1)]) acc).length = acc.length + pre.length by
    have := h pre []
    simpa [solveLN] using this
  intro pre
  induction pre with
  | nil => intro acc; rfl
  | cons x pre ih =>
    intro acc
    rw [List.foldl_cons, ih]
    simp
    omega
set_option maxRecDepth 100000 in
set_option maxHeartbeats 4000000 in
theorem tSolveN (n : Nat) (p : Option Addr) (N cap : Nat) (f : Nat → Nat → En) (pb : Option Addr) (cb : Nat) (b : Nat → En) (w : World) (h : Mx 4 cellsN w n n p N cap f) (hbr : Rq 4 cellsN w (.slice pb n cb) ((List.range n).map b)) :
    Calls Tryz.prog 20 #[mV n n p N cap, .slice pb n cb] w fun e w' => ∃ p' cap', e = .returned (.tuple #[.slice p' n cap', .bool true]) ∧ Rw 4 cellsN w' (.slice p' n cap') (solveTo subE divE dotN f b n) ∧ Bl w w' := by
  obtain ⟨i0, hi, hz0, hz1, hz2⟩ := info_parts Tryz.info_N
  have fm : Tryz.prog.follows .mixedOrders = true := by kernel_rfl
  have egD := enters_of Tryz.func39 (by kernel_rfl) rfl
  have egS := enters_of Tryz.func148 (by kernel_rfl) rfl
  have egV := enters_of Tryz.func144 (by kernel_rfl) rfl
  refine (callsIn_wide (n := 8)).1 ?_
  have hsq : sqB n n N = true := by unfold sqB; rw [h.fit]; simp
  have hd := h.1
  have hn16 := hd.r2
  have hn1 := hd.r1
  obtain ⟨bg, bo, hpb, hbl, CB⟩ : ∃ bg bo, pb = some ⟨bg, bo, none⟩ ∧ bg < w.heap.size ∧ ∀ i, i < n → ∀ k u, (cellsN (b i))[k]? = some u → w.cell? ⟨bg, bo + i * 4 + k, none⟩ = some u := by
    rcases hbr with ⟨_, _, _, h0, _⟩ | ⟨g, o, cc, e, _, hlt, HX⟩
    · have := congrArg List.length h0
      rw [List.length_map, List.length_range] at this
      simp at this
      omega
    · simp only [Value.slice.injEq] at e
      exact ⟨g, o, e.1, hlt, fun i hi k u hu => HX i _ (by simp [hi]) k u hu⟩
  subst hpb
  have HXm := hideP h
  have HCB := hideP CB
  clear h hbr CB
  obtain ⟨W, hW⟩ : ∃ W, W = (w.alloc (.cells #[.int .i64 n, .int .i64 n, .slice p N cap] 36)).alloc (.cells #[.slice (some ⟨bg, bo, none⟩) n cb] 34) := ⟨_, rfl⟩
  have b0 : Bl w W := by rw [hW]; exact ((Bl.refl _).alloc _).alloc _
  have mx0 : MBox W w.heap.size n n p N cap := by rw [hW]; exact (MBox.new w _ _ _ _ _ _).later ((Bl.refl _).alloc _)
  have bb0 : Boxed W (w.heap.size + 1) 34 (.slice (some ⟨bg, bo, none⟩) n cb) := by
    rw [hW]
    have := Boxed.new (w.alloc (.cells #[.int .i64 n, .int .i64 n, .slice p N cap] 36)) 34 (.slice (some ⟨bg, bo, none⟩) n cb)
    simpa using this
  have HW := hideP hW
  clear hW
  refine callsIn_of_wp_marks Tryz.func20 rfl trivial ?_ rfl
  simp only [Tryz.ntmps20, List.size_toArray, List.length_cons, List.length_nil, Nat.reduceAdd, Nat.reduceSub, Array.replicate_succ, Array.replicate_zero, List.push_toArray, List.append_toArray, List.nil_append, List.cons_append]
  gi_wp2_with fail
  rw [← HW.out]
  obtain ⟨c0, c1, c2, f0, f1, f2, lt⟩ := id mx0
  have sb := bb0.cell
  gi_wp2_with fail
  refine ⟨trivial, ?_⟩
  refine (callsIn_wide.2 (tSquareN _ _ _ _ _ _)).mono ?_
  rintro e w5 ⟨rfl, h5⟩
  rw [hsq]
  have mx5 := mx0.later h5
  have bb5 := boxed_bl bb0 h5
  have bw5 : Bl w w5 := b0.trans h5
  clear c0 c1 c2 f0 f1 f2 lt sb
  obtain ⟨c0, c1, c2, f0, f1, f2, lt⟩ := id mx5
  have sb := bb5.cell
  gi_wp2_with (gi_at_make; refine wpListIn_make_own _ rfl _ _ 34 rfl w5.heap.size 40 i0 (.agg #[.int .i64 0, .int .i64 0, .int .i64 0, .bool false]) 4 Tryz.underlying34 hi hz0 hz1 .i64 .i64 _ n rfl rfl (by simp) (by rw [hz2]; omega) (by unfold maxLen; omega) (by simp) ?_; intro w6 hown0 hgrow0; have mx6 := mbox_block mx5 (hgrow0.block _ mx5.lt nofun) hgrow0.size; clear c0 c1 c2 f0 f1 f2 lt sb; obtain ⟨c0, c1, c2, f0, f1, f2, lt⟩ := mx6)
  have h56 : Bl w5 w6 := ⟨hgrow0.os, hgrow0.tape, hgrow0.output, hgrow0.size, fun k hk => hgrow0.block k hk nofun⟩
  have hs6 : w5.heap.size ≤ w6.heap.size := hgrow0.size
  obtain ⟨w6b, hw6b⟩ : ∃ w6b, w6b = w6.alloc (.cells #[.slice (some ⟨w5.heap.size, 0, none⟩) 0 n] 34) := ⟨_, rfl⟩
  have h6b : Bl w6 w6b := by rw [hw6b]; exact (Bl.refl _).alloc _
  have hs6b : w6b.heap.size = w6.heap.size + 1 := by rw [hw6b]; simp
  have bl6 : Boxed w6b w6.heap.size 34 (.slice (some ⟨w5.heap.size, 0, none⟩) 0 n) := by rw [hw6b]; exact Boxed.new w6 _ _
  have hown6 : w6b.ownsRow w5.heap.size 40 4 (.slice (some ⟨w5.heap.size, 0, none⟩) 0 n) 0 [] := own_blN hown0 h6b
  have hlt5 : w5.heap.size < w6b.heap.size := by have := (hown6.lt w5.heap.size rfl).2; exact this
  have HW6 := hideP hw6b
  clear hw6b hown0 hgrow0 c0 c1 c2 f0 f1 f2 lt
  rw [← HW6.out]
  refine ⟨trivial, ?_⟩
  refine (callsIn_wide.2 (mAllN _ _ _ _ _ f _ (HXm.out.later ((bw5.trans h56).trans h6b)))).mono ?_
  rintro e w7 ⟨B2, p2, cap5, rfl, hK7, h7⟩
  have HK7 := hideP hK7
  clear hK7
  have hs7 : w6.heap.size + 1 ≤ w7.heap.size := by have := h7.size; omega
  have b57 : Below w5.heap.size w5 w7 := (h56.trans h6b).trans h7
  have bl7 := boxed_bl bl6 h7
  have own7 := own_blN hown6 h7
  clear bl6 hown6
  gi_wp2_with fail
  refine rangeV rfl (by omega) (gf := 70) (lb := #[.pointer (some ⟨B2, 0, none⟩)]) rfl trivial (enters_of Tryz.func70 (by kernel_rfl) rfl)
    (seqMN 7 B2 _ w7.heap.size n n p2 N cap5 f w7 (Nat.le_refl _) HK7.out) (fun x A B h => h.1) (fun h k => h.trans k) (span_b (Nat.le_refl _)) (fun _ => rfl)
    (fun (pre : List RowX) U => (∃ v, Boxed U w6.heap.size 34 v ∧ U.ownsRow w5.heap.size 40 4 v (solveLN f b pre).length ((solveLN f b pre).flatMap cellsN) ∧ (∀ b, v.ownBlock = some b → b < w6b.heap.size ∨ w7.heap.size ≤ b)) ∧ (Below w5.heap.size w5 U ∧ w7.heap.size ≤ U.heap.size))
    (fun _ _ _ => False)
    (OwnFrom.and (Own.from (holdsRow_own w5.heap.size w6.heap.size 34 40 4 (fun pre : List RowX => (solveLN f b pre).length) (fun pre : List RowX => (solveLN f b pre).flatMap cellsN) (fun _ v => ∀ b, v.ownBlock = some b → b < w6b.heap.size ∨ w7.heap.size ≤ b)) _) (OwnFrom.and (ownFrom_below (Nat.le_refl _) b57.size) (own_size _ _)))
    (fun _ _ _ _ _ hs _ _ => hs)
    ⟨⟨_, bl7, own7, fun b hb => by cases hb; exact .inl hlt5⟩, b57, Nat.le_refl _⟩
    (fun a x a' U => Rw 4 cellsN U (rowV n x) (rowM n f x.1) ∧ ((x.1 < n ∧ n ≤ x.2.2) ∧ a' = { tmps := ((((a.tmps.setIfInBounds 25 (.int .i64 x.1)).setIfInBounds 26 (rowV n x)).setIfInBounds 7 (.int .i64 x.1)).setIfInBounds 8 (rowV n x)), defers := [] }))
    (fun x a' _ X Y row hs hg hr => ⟨rw_own hs.1 hg (fun r e => (hr r e).2), hs.2⟩)
    ?assign ?body ?done ?stop
  case assign =>
    rintro l pre x W0 U K' _ ⟨hbU, hxR, hrow, hfr, hcc⟩ hI hK'
    have HK2 := hideP hK'
    have HI := hideP hI
    have HRO := hideP hrow
    clear hK' hI hrow
    gi_wp2
    refine HK2.out _ _ (KeepsFrom.refl _ _) (Span.refl _ _ _) HI.out ⟨HRO.out, ⟨hxR, hcc⟩, ?_⟩
    simp only [List.setIfInBounds_toArray, List.set_cons_zero, List.set_cons_succ]
  case body =>
    rintro l pre x a' U hl' ⟨r, hr'⟩ ⟨⟨v0, hv00, hrow0, hgv⟩, hbU, hsU⟩ ⟨hrx, ⟨hxn, hxc⟩, rfl⟩ hlt
    simp only [List.setIfInBounds_toArray, List.set_cons_zero, List.set_cons_succ]
    have hlen2 : (solveLN f b pre).length ≤ 100000 := by rw [solveLN_len]; omega
    have hne0 : some w6.heap.size ≠ v0.ownBlock := hv00.not_row (by decide) hrow0
    have hrw := Rw.of_own cellsN_len hrow0
    obtain ⟨rb, ro, hp1, hrl, hrc⟩ := rw_cells7 hrx (show 0 < n by omega)
    have hb5 := b57.size
    have hcut : ¬ x.2.2 < x.1 := by omega
    have bUW : Bl w U := bw5.trans hbU
    have bb1 := boxed_bl bb5 (show Bl w5 U from hbU)
    obtain ⟨y, hy⟩ : ∃ y, y = subE (b x.1) (dotN (rowM x.1 f x.1) (solveLN f b pre)) := ⟨_, rfl⟩
    obtain ⟨z, hz⟩ : ∃ z, z = divE y (f x.1 x.1) := ⟨_, rfl⟩
    have XS := hideP (fun u => by have := esub_any (b x.1) (dotN (rowM x.1 f x.1) (solveLN f b pre)) u; rw [← hy] at this; exact this)
    have ZS := hideP (fun u => by have := ediv_any y (f x.1 x.1) u; rw [← hz] at this; exact this)
    have HSN := hideP (show solveLN f b (pre ++ [x]) = solveLN f b pre ++ [z] by rw [solveLN_snoc, hz, hy])
    clear hy hz
    have q0 : ∀ u, Bl U u → u.cell? ⟨bg, bo + x.1 * 4, none⟩ = some (.int .i64 (b x.1).v) := fun u hu => (bl_cell (bUW.trans hu) _ _ hbl).trans (HCB.out x.1 hxn 0 _ rfl)
    have q1 : ∀ u, Bl U u → u.cell? ⟨bg, bo + x.1 * 4 + 1, none⟩ = some (.int .i64 (b x.1).l) := fun u hu => (bl_cell (bUW.trans hu) _ _ hbl).trans (HCB.out x.1 hxn 1 _ rfl)
    have q2 : ∀ u, Bl U u → u.cell? ⟨bg, bo + x.1 * 4 + 2, none⟩ = some (.int .i64 (b x.1).h) := fun u hu => (bl_cell (bUW.trans hu) _ _ hbl).trans (HCB.out x.1 hxn 2 _ rfl)
    have q3 : ∀ u, Bl U u → u.cell? ⟨bg, bo + x.1 * 4 + 3, none⟩ = some (.bool (b x.1).bad) := fun u hu => (bl_cell (bUW.trans hu) _ _ hbl).trans (HCB.out x.1 hxn 3 _ rfl)
    have y0 : ∀ u, Bl U u → u.cell? ⟨rb, ro + x.1 * 4, none⟩ = some (.int .i64 (f x.1 x.1).v) := fun u hu => (bl_cell hu _ _ hrl).trans (hrc x.1 _ (rowM_get f x.1 hxn) 0 _ rfl)
    have y1 : ∀ u, Bl U u → u.cell? ⟨rb, ro + x.1 * 4 + 1, none⟩ = some (.int .i64 (f x.1 x.1).l) := fun u hu => (bl_cell hu _ _ hrl).trans (hrc x.1 _ (rowM_get f x.1 hxn) 1 _ rfl)
    have y2 : ∀ u, Bl U u → u.cell? ⟨rb, ro + x.1 * 4 + 2, none⟩ = some (.int .i64 (f x.1 x.1).h) := fun u hu => (bl_cell hu _ _ hrl).trans (hrc x.1 _ (rowM_get f x.1 hxn) 2 _ rfl)
    have y3 : ∀ u, Bl U u → u.cell? ⟨rb, ro + x.1 * 4 + 3, none⟩ = some (.bool (f x.1 x.1).bad) := fun u hu => (bl_cell hu _ _ hrl).trans (hrc x.1 _ (rowM_get f x.1 hxn) 3 _ rfl)
    gi_wp2_with fail
    refine (region_q fm [some 27, some 28, some 29, some 30, some 31, some 32, some 33, some 34, some 35, some 36, some 37, some 9, none] (fun _ => false) 12 (by kernel_rfl) (by rfl)
      (fun j v u => match j with | 0 => v = .slice (some ⟨bg, bo, none⟩) n cb | 1 => v = .int .i64 x.1 | 2 => v = .pointer (some ⟨bg, bo + x.1 * 4, none⟩) | 3 => v = enV (b x.1) | 4 => v = .iface 40 (enV (b x.1)) | 5 => v = rowV n x | 6 => v = .int .i64 x.1 | 7 => ∃ q c, v = .slice q x.1 c ∧ Rw 4 cellsN u (.slice q x.1 c) (rowM x.1 f x.1) | 8 => v = v0 | 9 => v = enV (dotN (rowM x.1 f x.1) (solveLN f b pre)) | 10 => v = enV y | 11 => ∃ bb, v = .pointer (some ⟨bb, 0, none⟩) ∧ U.heap.size ≤ bb ∧ Box u bb zeroE | _ => False)
      (by
        intro j v u u' hb h
        split at h <;> first | exact h | (obtain ⟨q, c, e, h1⟩ := h; exact ⟨q, c, e, h1.later hb⟩) | (obtain ⟨bb, e, h1, h2⟩ := h; exact ⟨bb, e, h1, h2.later hb⟩)) (fun vs u0 u => ∃ bb, vs 11 = .pointer (some ⟨bb, 0, none⟩) ∧ U.heap.size ≤ bb ∧ Box u bb y ∧ Bl U u) ?step ?still ?store ?fin)
    case step =>
      intro j o t act u ho hdt hpu hsz hu hfr hin
      have hj : j < 13 := (Array.getElem?_eq_some_iff.1 ho).1
      have sb := (boxed_bl bb1 hu).cell
      have e0 := q0 u hu; have e1 := q1 u hu; have e2 := q2 u hu; have e3 := q3 u hu
      rcases (by omega : j = 0 ∨ j = 1 ∨ j = 2 ∨ j = 3 ∨ j = 4 ∨ j = 5 ∨ j = 6 ∨ j = 7 ∨ j = 8 ∨ j = 9 ∨ j = 10 ∨ j = 11 ∨ j = 12) with rfl | rfl | rfl | rfl | rfl | rfl | rfl | rfl | rfl | rfl | rfl | rfl | rfl
      · simp only [List.getElem?_toArray, List.getElem?_cons_zero, List.getElem?_cons_succ, Option.some.injEq] at ho
        subst ho
        obtain rfl := Option.some.inj hdt
        have i3 : act.eval (.tmp (3 : Nat)) = .pointer (some ⟨w.heap.size + 1, 0, none⟩) := hfr 3 (by decide)
        exact plain_wp (by intro c h; cases h) (fun _ _ => trivial) (by simp only [execOp, i3, evalC, evalF, evalG]; simp [go_sem, sb]) ⟨_, rfl, rfl, Bl.refl _⟩
      · simp only [List.getElem?_toArray, List.getElem?_cons_zero, List.getElem?_cons_succ, Option.some.injEq] at ho
        subst ho
        obtain rfl := Option.some.inj hdt
        have i7 : act.eval (.tmp (7 : Nat)) = .int .i64 x.1 := hfr 7 (by decide)
        exact plain_wp (by intro c h; cases h) (fun _ _ => trivial) (by simp only [execOp, i7, evalC, evalF, evalG]; simp [go_sem]) ⟨_, rfl, rfl, Bl.refl _⟩
      · simp only [List.getElem?_toArray, List.getElem?_cons_zero, List.getElem?_cons_succ, Option.some.injEq] at ho
        subst ho
        obtain rfl := Option.some.inj hdt
        have i27 : (act.eval (.tmp (27 : Nat))) = .slice (some ⟨bg, bo, none⟩) n cb := hin ⟨0, .data⟩ (by simp) rfl 27 rfl
        have i28 : (act.eval (.tmp (28 : Nat))) = .int .i64 x.1 := hin ⟨1, .data⟩ (by simp) rfl 28 rfl
        exact plain_wp (by intro c h; cases h) (fun _ _ => trivial) (by simp only [execOp, i27, i28]; simp [go_sem, hxn]) ⟨_, rfl, rfl, Bl.refl _⟩
      · simp only [List.getElem?_toArray, List.getElem?_cons_zero, List.getElem?_cons_succ, Option.some.injEq] at ho
        subst ho
        obtain rfl := Option.some.inj hdt
        have i29 : (act.eval (.tmp (29 : Nat))) = .pointer (some ⟨bg, bo + x.1 * 4, none⟩) := hin ⟨2, .data⟩ (by simp) rfl 29 rfl
        exact plain_wp (by intro c h; cases h) (fun _ _ => trivial) (by simp only [execOp, i29]; simp [go_sem, e0, e1, e2, e3]) ⟨_, rfl, rfl, Bl.refl _⟩
      · simp only [List.getElem?_toArray, List.getElem?_cons_zero, List.getElem?_cons_succ, Option.some.injEq] at ho
        subst ho
        obtain rfl := Option.some.inj hdt
        have i30 : (act.eval (.tmp (30 : Nat))) = enV (b x.1) := hin ⟨3, .data⟩ (by simp) rfl 30 rfl
        exact plain_wp (by intro c h; cases h) (fun _ _ => trivial) (by simp only [execOp, i30, evalC, evalF, evalG]; simp [go_sem]) ⟨_, rfl, rfl, Bl.refl _⟩
      · simp only [List.getElem?_toArray, List.getElem?_cons_zero, List.getElem?_cons_succ, Option.some.injEq] at ho
        subst ho
        obtain rfl := Option.some.inj hdt
        have i8 : act.eval (.tmp (8 : Nat)) = rowV n x := hfr 8 (by decide)
        exact plain_wp (by intro c h; cases h) (fun _ _ => trivial) (by simp only [execOp, i8, evalC, evalF, evalG]; simp [go_sem]) ⟨_, rfl, rfl, Bl.refl _⟩
      · simp only [List.getElem?_toArray, List.getElem?_cons_zero, List.getElem?_cons_succ, Option.some.injEq] at ho
        subst ho
        obtain rfl := Option.some.inj hdt
        have i7 : act.eval (.tmp (7 : Nat)) = .int .i64 x.1 := hfr 7 (by decide)
        exact plain_wp (by intro c h; cases h) (fun _ _ => trivial) (by simp only [execOp, i7, evalC, evalF, evalG]; simp [go_sem]) ⟨_, rfl, rfl, Bl.refl _⟩
      · simp only [List.getElem?_toArray, List.getElem?_cons_zero, List.getElem?_cons_succ, Option.some.injEq] at ho
        subst ho
        obtain rfl := Option.some.inj hdt
        have i32 : (act.eval (.tmp (32 : Nat))) = rowV n x := hin ⟨5, .data⟩ (by simp) rfl 32 rfl
        have i33 : (act.eval (.tmp (33 : Nat))) = .int .i64 x.1 := hin ⟨6, .data⟩ (by simp) rfl 33 rfl
        exact plain_wp (by intro c h; cases h) (fun _ _ => trivial) (by simp only [execOp, i32, i33, Option.map_some, Option.map_none]; simp [go_sem, hcut]) ⟨_, rfl, ⟨_, _, rfl, rw_row7 (hrx.later hu) (by omega)⟩, Bl.refl _⟩
      · simp only [List.getElem?_toArray, List.getElem?_cons_zero, List.getElem?_cons_succ, Option.some.injEq] at ho
        subst ho
        obtain rfl := Option.some.inj hdt
        have i6 : act.eval (.tmp (6 : Nat)) = .pointer (some ⟨w6.heap.size, 0, none⟩) := hfr 6 (by decide)
        exact load_wp _ _ rfl (by rw [i6]; exact Tryz.load1N w6.heap.size _ u (boxed_bl hv00 hu).cell) ⟨_, rfl, rfl, Bl.refl _⟩
      · simp only [List.getElem?_toArray, List.getElem?_cons_zero, List.getElem?_cons_succ, Option.some.injEq] at ho
        subst ho
        obtain rfl := Option.some.inj hdt
        have i34 : ∃ q c, (act.eval (.tmp (34 : Nat))) = .slice q x.1 c ∧ Rw 4 cellsN u (.slice q x.1 c) (rowM x.1 f x.1) := hin ⟨7, .data⟩ (by simp) rfl 34 rfl
        have i35 : (act.eval (.tmp (35 : Nat))) = v0 := hin ⟨8, .data⟩ (by simp) rfl 35 rfl
        obtain ⟨q1, c1', e1, hr1⟩ := i34
        refine enter_wp 39 #[.slice q1 x.1 c1', v0] (by intro c h; cases h) (fun _ _ => trivial) (by simp only [execOp, evalC, evalF, evalG, resolve, e1, i35, List.map_toArray, List.map_cons, List.map_nil]; simp [invoke, egD, Result.andThen, go_sem]) (by intro h; cases h) (CallsIn.inRound l (callsIn_wide.2 (vDotN _ _ (rowM x.1 f x.1) (solveLN f b pre) u hr1.q (hrw.later hu).q (by rw [rowM_len]; omega) (by omega)))) ?_
        rintro e w' ⟨rfl, hb⟩
        exact ⟨_, rfl, _, rfl, rfl, hb⟩
      · simp only [List.getElem?_toArray, List.getElem?_cons_zero, List.getElem?_cons_succ, Option.some.injEq] at ho
        subst ho
        obtain rfl := Option.some.inj hdt
        have i31 : (act.eval (.tmp (31 : Nat))) = .iface 40 (enV (b x.1)) := hin ⟨4, .data⟩ (by simp) rfl 31 rfl
        have i36 : (act.eval (.tmp (36 : Nat))) = enV (dotN (rowM x.1 f x.1) (solveLN f b pre)) := hin ⟨9, .data⟩ (by simp) rfl 36 rfl
        have iv := Tryz.mSubN
        refine enter_wp 148 #[enV (b x.1), enV (dotN (rowM x.1 f x.1) (solveLN f b pre))] (by intro c h; cases h) (fun _ _ => trivial) (by simp only [execOp, evalC, evalF, evalG, resolve, i31, i36, List.map_toArray, List.map_cons, List.map_nil]; simp [invoke, iv, egS, Result.andThen, go_sem]) (by intro h; cases h) (CallsIn.inRound l (callsIn_wide.2 (XS.out u))) ?_
        rintro e w' ⟨rfl, hb⟩
        exact ⟨_, rfl, _, rfl, rfl, hb⟩
      · simp only [List.getElem?_toArray, List.getElem?_cons_zero, List.getElem?_cons_succ, Option.some.injEq] at ho
        subst ho
        obtain rfl := Option.some.inj hdt
        exact plain_wp (by intro c h; cases h) (fun _ _ => trivial) (w' := u.alloc (.cells #[.int .i64 0, .int .i64 0, .int .i64 0, .bool false] 40)) (v := .pointer (some ⟨u.heap.size, 0, none⟩)) (by simp only [execOp]; simp [go_sem]) ⟨_, rfl, ⟨u.heap.size, rfl, hu.size, Box.new u zeroE _⟩, (Bl.refl _).alloc _⟩
      · simp only [List.getElem?_toArray, List.getElem?_cons_zero, List.getElem?_cons_succ, Option.some.injEq] at ho
        subst ho
        cases hdt
    case still =>
      intro j o t act u0 u ho hdt hpu
      cases hpu
    case store =>
      intro o act u vs ho hsz hu hfr hin
      simp only [List.getElem?_toArray, List.getElem?_cons_zero, List.getElem?_cons_succ, Option.some.injEq] at ho
      subst ho
      obtain ⟨i9, k9⟩ : act.eval (.tmp (9 : Nat)) = vs 11 ∧ (∃ bb, (vs 11) = .pointer (some ⟨bb, 0, none⟩) ∧ U.heap.size ≤ bb ∧ Box u bb zeroE) := hin 11 9 rfl rfl
      obtain ⟨i37, k37⟩ : act.eval (.tmp (37 : Nat)) = vs 10 ∧ ((vs 10) = enV y) := hin 10 37 rfl rfl
      obtain ⟨bb, e1, hbb, bx⟩ := k9
      rw [e1] at i9
      rw [k37] at i37
      obtain ⟨c0, c1, c2, c3, f0, f1, f2, f3, ltb⟩ := id bx
      exact skip_wp (by intro c h; cases h) (fun _ _ => trivial) (by simp only [execOp, i9, i37]; simp [go_sem, c0, f0, c1, f1, c2, f2, c3, f3]) ⟨rfl, bb, e1, hbb, bx.fill y, Bl.set4 hu hbb _ _ _ _⟩
    case fin =>
      intro vs vb u0 u hu hin hps
      have a0 := hin 0 27 rfl
      have a1 := hin 1 28 rfl
      have a2 := hin 2 29 rfl
      have a3 := hin 3 30 rfl
      have a4 := hin 4 31 rfl
      have a5 := hin 5 32 rfl
      have a6 := hin 6 33 rfl
      have a7 := hin 7 34 rfl
      have a8 := hin 8 35 rfl
      have a9 := hin 9 36 rfl
      have a10 := hin 10 37 rfl
      have a11 := hin 11 9 rfl
      simp only [putL, Act.put, List.setIfInBounds_toArray, List.set_cons_zero, List.set_cons_succ, Nat.zero_add, Nat.reduceAdd, Nat.reduceBEq, Bool.or_false, Bool.or_true, Bool.false_or, Bool.true_or, Bool.false_eq_true, if_false, if_true, reduceIte, Nat.reduceEqDiff, beq_self_eq_true, Bool.or_self] at a0 a1 a2 a3 a4 a5 a6 a7 a8 a9 a10 a11 ⊢
      rw [if_pos (by decide)] at hps
      simp only [a0, a1, a2, a3, a4, a5, a6, a8, a9, a10]
      obtain ⟨bb, e11, hbb, bxy, hbw⟩ := hps
      simp only [e11]
      clear a7 a11
      have hv0 := boxed_bl hv00 hbw
      have hrow := own_blN hrow0 hbw
      gi_wp2_with fail
      refine (region_qa fm [some 38, some 39, some 40, some 41, some 42, some 43, some 44, some 45, some 46, some 47, none] 9 (by kernel_rfl) (by rfl)
      (fun j v u => match j with | 0 => v = v0 | 1 => v = enV y | 2 => v = .iface 40 (enV y) | 3 => v = rowV n x | 4 => v = .int .i64 x.1 | 5 => v = .pointer (some ⟨rb, ro + x.1 * 4, none⟩) | 6 => v = enV (f x.1 x.1) | 7 => v = enV z | 8 => ∃ gz, v = .slice (some ⟨gz, 0, none⟩) 1 1 ∧ Box u gz z | _ => False)
      (by
        intro j v u u' hb h
        split at h <;> first | exact h | (obtain ⟨b, e, h1⟩ := h; exact ⟨b, e, h1.later hb⟩)) (fun vs v u0 u => ∃ g' cap', v = .slice (some ⟨g', 0, none⟩) ((solveLN f b pre).length + 1) cap' ∧ u0.grownBy u v0.ownBlock ∧ u.ownsRow w5.heap.size 40 4 (.slice (some ⟨g', 0, none⟩) ((solveLN f b pre).length + 1) cap') ((solveLN f b pre).length + 1) ((solveLN f b pre).flatMap cellsN ++ cellsN z) ∧ (some g' = v0.ownBlock ∨ g' = u0.heap.size)) (fun vs v u0 u => ∃ wz g' cap', u = wz.setCell ⟨w6.heap.size, 0, none⟩ (.slice (some ⟨g', 0, none⟩) ((solveLN f b pre).length + 1) cap') ∧ u0.grownBy wz v0.ownBlock ∧ wz.ownsRow w5.heap.size 40 4 (.slice (some ⟨g', 0, none⟩) ((solveLN f b pre).length + 1) cap') ((solveLN f b pre).length + 1) ((solveLN f b pre).flatMap cellsN ++ cellsN z) ∧ (some g' = v0.ownBlock ∨ g' = u0.heap.size)) ?step ?app ?store ?fin)
      case step =>
        intro j o t act u ho hdt hjs hsz hu hfr hin
        have e0 := y0 u (hbw.trans hu); have e1 := y1 u (hbw.trans hu); have e2 := y2 u (hbw.trans hu); have e3 := y3 u (hbw.trans hu)
        rcases (by omega : j = 0 ∨ j = 1 ∨ j = 2 ∨ j = 3 ∨ j = 4 ∨ j = 5 ∨ j = 6 ∨ j = 7 ∨ j = 8) with rfl | rfl | rfl | rfl | rfl | rfl | rfl | rfl | rfl
        · simp only [List.getElem?_toArray, List.getElem?_cons_zero, List.getElem?_cons_succ, Option.some.injEq] at ho
          subst ho
          obtain rfl := Option.some.inj hdt
          have i6 : act.eval (.tmp (6 : Nat)) = .pointer (some ⟨w6.heap.size, 0, none⟩) := hfr 6 (by decide)
          exact load_wp _ _ rfl (by rw [i6]; exact Tryz.load1N w6.heap.size _ u (boxed_bl hv0 hu).cell) ⟨_, rfl, rfl, Bl.refl _⟩
        · simp only [List.getElem?_toArray, List.getElem?_cons_zero, List.getElem?_cons_succ, Option.some.injEq] at ho
          subst ho
          obtain rfl := Option.some.inj hdt
          have i9 : act.eval (.tmp (9 : Nat)) = .pointer (some ⟨bb, 0, none⟩) := hfr 9 (by decide)
          obtain ⟨c0, c1, c2, c3, f0, f1, f2, f3, ltb⟩ := bxy.later hu
          exact plain_wp (by intro c h; cases h) (fun _ _ => trivial) (by simp only [execOp, i9]; simp [go_sem, c0, c1, c2, c3]) ⟨_, rfl, rfl, Bl.refl _⟩
        · simp only [List.getElem?_toArray, List.getElem?_cons_zero, List.getElem?_cons_succ, Option.some.injEq] at ho
          subst ho
          obtain rfl := Option.some.inj hdt
          have i39 : (act.eval (.tmp (39 : Nat))) = enV y := hin ⟨1, .data⟩ (by simp) rfl 39 rfl
          exact plain_wp (by intro c h; cases h) (fun _ _ => trivial) (by simp only [execOp, i39, evalC, evalF, evalG]; simp [go_sem]) ⟨_, rfl, rfl, Bl.refl _⟩
        · simp only [List.getElem?_toArray, List.getElem?_cons_zero, List.getElem?_cons_succ, Option.some.injEq] at ho
          subst ho
          obtain rfl := Option.some.inj hdt
          have i8 : act.eval (.tmp (8 : Nat)) = rowV n x := hfr 8 (by decide)
          exact plain_wp (by intro c h; cases h) (fun _ _ => trivial) (by simp only [execOp, i8, evalC, evalF, evalG]; simp [go_sem]) ⟨_, rfl, rfl, Bl.refl _⟩
        · simp only [List.getElem?_toArray, List.getElem?_cons_zero, List.getElem?_cons_succ, Option.some.injEq] at ho
          subst ho
          obtain rfl := Option.some.inj hdt
          have i7 : act.eval (.tmp (7 : Nat)) = .int .i64 x.1 := hfr 7 (by decide)
          exact plain_wp (by intro c h; cases h) (fun _ _ => trivial) (by simp only [execOp, i7, evalC, evalF, evalG]; simp [go_sem]) ⟨_, rfl, rfl, Bl.refl _⟩
        · simp only [List.getElem?_toArray, List.getElem?_cons_zero, List.getElem?_cons_succ, Option.some.injEq] at ho
          subst ho
          obtain rfl := Option.some.inj hdt
          have i41 : (act.eval (.tmp (41 : Nat))) = rowV n x := hin ⟨3, .data⟩ (by simp) rfl 41 rfl
          have i42 : (act.eval (.tmp (42 : Nat))) = .int .i64 x.1 := hin ⟨4, .data⟩ (by simp) rfl 42 rfl
          exact plain_wp (by intro c h; cases h) (fun _ _ => trivial) (by simp only [execOp, i41, i42, rowV, hp1]; simp [go_sem, hxn]) ⟨_, rfl, rfl, Bl.refl _⟩
        · simp only [List.getElem?_toArray, List.getElem?_cons_zero, List.getElem?_cons_succ, Option.some.injEq] at ho
          subst ho
          obtain rfl := Option.some.inj hdt
          have i43 : (act.eval (.tmp (43 : Nat))) = .pointer (some ⟨rb, ro + x.1 * 4, none⟩) := hin ⟨5, .data⟩ (by simp) rfl 43 rfl
          exact plain_wp (by intro c h; cases h) (fun _ _ => trivial) (by simp only [execOp, i43]; simp [go_sem, e0, e1, e2, e3]) ⟨_, rfl, rfl, Bl.refl _⟩
        · simp only [List.getElem?_toArray, List.getElem?_cons_zero, List.getElem?_cons_succ, Option.some.injEq] at ho
          subst ho
          obtain rfl := Option.some.inj hdt
          have i40 : (act.eval (.tmp (40 : Nat))) = .iface 40 (enV y) := hin ⟨2, .data⟩ (by simp) rfl 40 rfl
          have i44 : (act.eval (.tmp (44 : Nat))) = enV (f x.1 x.1) := hin ⟨6, .data⟩ (by simp) rfl 44 rfl
          have iv := Tryz.mDivN
          refine enter_wp 144 #[enV y, enV (f x.1 x.1)] (by intro c h; cases h) (fun _ _ => trivial) (by simp only [execOp, evalC, evalF, evalG, resolve, i40, i44, List.map_toArray, List.map_cons, List.map_nil]; simp [invoke, iv, egV, Result.andThen, go_sem]) (by intro h; cases h) (CallsIn.inRound l (callsIn_wide.2 (ZS.out u))) ?_
          rintro e w' ⟨rfl, hb⟩
          exact ⟨_, rfl, _, rfl, rfl, hb⟩
        · simp only [List.getElem?_toArray, List.getElem?_cons_zero, List.getElem?_cons_succ, Option.some.injEq] at ho
          subst ho
          obtain rfl := Option.some.inj hdt
          have i45 : (act.eval (.tmp (45 : Nat))) = enV z := hin ⟨7, .data⟩ (by simp) rfl 45 rfl
          refine build_wp _ _ rfl (by rw [i45]; exact Tryz.build1N _ u) ?_
          exact ⟨_, rfl, ⟨u.heap.size, rfl, Box.new u _ _⟩, (Bl.refl _).alloc _⟩
      case app =>
        intro o t act u vs ho hdt hsz hu hfr hin
        simp only [List.getElem?_toArray, List.getElem?_cons_zero, List.getElem?_cons_succ, Option.some.injEq] at ho
        subst ho
        obtain rfl := Option.some.inj hdt
        obtain ⟨i38, k38⟩ : act.eval (.tmp (38 : Nat)) = vs 0 ∧ ((vs 0) = v0) := hin 0 38 (by omega) rfl
        obtain ⟨i46, k46⟩ : act.eval (.tmp (46 : Nat)) = vs 8 ∧ (∃ gz, (vs 8) = .slice (some ⟨gz, 0, none⟩) 1 1 ∧ Box u gz z) := hin 8 46 (by omega) rfl
        obtain ⟨gz, eg, bz⟩ := k46
        rw [eg] at i46
        rw [k38] at i38
        refine stepIn_append (.tmp (38 : Nat)) (.tmp (46 : Nat)) 34 rfl w5.heap.size 40 i0 (.agg #[.int .i64 0, .int .i64 0, .int .i64 0, .bool false]) 4 32 Tryz.underlying34 hi hz0 hz1 hz2 rfl (by decide) v0 (solveLN f b pre).length ((solveLN f b pre).flatMap cellsN) i38 (own_blN hrow hu) ⟨gz, 0, none⟩ 1 1 (cellsN z) i46 rfl bz.cells (oneN_cells _) (by unfold maxLen; omega) (by omega) (by have := hu.size; have := hbw.size; omega) ?_
        intro v' w5 hown' hgrow hat
        obtain ⟨g', cap', rfl⟩ := ownsRow_succ hown'
        refine ⟨_, rfl, g', cap', rfl, hgrow, hown', ?_⟩
        rcases hat with h | h
        · exact .inl h
        · exact .inr (by simpa [Value.ownBlock] using h)
      case store =>
        intro o act u0 u vs v ho hsz hu hfr hin hv hpa
        simp only [List.getElem?_toArray, List.getElem?_cons_zero, List.getElem?_cons_succ, Option.some.injEq] at ho
        subst ho
        have i6 : act.eval (.tmp (6 : Nat)) = .pointer (some ⟨w6.heap.size, 0, none⟩) := hfr 6 (by decide)
        have i47 : act.eval (.tmp (47 : Nat)) = v := hv 47 rfl
        obtain ⟨g', cap', rfl, hgrow, hown', hat⟩ := hpa
        have hbu := (boxed_bl hv0 hu).kept hgrow hne0
        exact skip_wp (by intro c h; cases h) (fun _ _ => trivial) (by simp only [execOp, i6, i47]; simp [go_sem, hbu.cell, hbu.frozen]) ⟨rfl, u, g', cap', rfl, hgrow, hown', hat⟩
      case fin =>
        intro vs v u0 u hu hin hpb
        obtain ⟨w8, g', cap', rfl, k2, k3, k4⟩ := hpb
        have k1 := hbw.trans hu
        clear hin
        have hvu := boxed_bl hv00 k1
        have hru := own_blN hrow0 k1
        have hsu := k1.size
        have hu5 : w5.heap.size ≤ u0.heap.size := by omega
        obtain ⟨hv5, hv6, hr6, hk6, hb6⟩ := boxed_appended hvu (by decide) hru hu5 (by omega) k3 k2
        have hg8 := k2.size
        refine ⟨(k1.keeps _).trans (hk6.from _), span_appended k1 (by omega) hgv k2 (by omega), ⟨_, hv6, ?_, ?_⟩, ?_, ?_⟩
        · rw [HSN.out]
          simpa [List.flatMap_append] using hr6
        · intro b hb
          have hb' : g' = b := by cases hb; rfl
          subst hb'
          rcases k4 with h | h
          · exact hgv _ h.symm
          · exact .inr (by omega)
        · exact hbU.trans ((k1.mono (by omega)).trans hb6)
        · simp; omega
  case done =>
    rintro Dm zs U hD hS ⟨⟨v, hv, hrow, _⟩, hb5, hs7'⟩ hKD
    have e := solveLN_all f b n zs hS
    rw [e] at hrow
    have RW := Rw.of_own cellsN_len (ownsRow_putObj hrow (.deferred none) hKD rfl)
    obtain ⟨p', cap', hv', _, _⟩ := RW.cut
    rw [solveTo_len] at hv'
    subst hv'
    have hcl := hv.cell
    have hbw : Bl w U := bw5.trans hb5
    have HRW := hideP RW
    have HKD := hideP hKD
    clear hrow RW hKD hv e
    gi_wp2
    refine ⟨by simp, .inl ⟨_, _, rfl, run_takeDeferred HKD.out, ?_⟩⟩
    exact ⟨_, by simp [results, Tryz.results20, go_sem], p', cap', rfl, HRW.out, Below.trans hbw (belowK_b (w := w) (Nat.le_refl _) U Dm _ _ (by have := bw5.size; have := b57.size; omega) HKD.out rfl rfl)⟩
  case stop =>
    rintro D' c pre U _ _ h _
    exact h.elim
theorem tSolveN_len (n : Nat) (p : Option Addr) (N cap : Nat) (f : Nat → Nat → En) (pb : Option Addr) (lb cb : Nat) (w : World) (h : Mx 4 cellsN w n n p N cap f) (hlb : lb ≠ n) :
    Calls Tryz.prog 20 #[mV n n p N cap, .slice pb lb cb] w fun e w' => e = .returned (.tuple #[.slice none 0 0, .bool false]) ∧ Bl w w' := by
  have hsq : sqB n n N = true := by unfold sqB; rw [h.fit]; simp
  clear h
  have hne : ((lb : Int) != (n : Int)) = true := by simp; omega
  obtain ⟨W, hW⟩ : ∃ W, W = (w.alloc (.cells #[.int .i64 n, .int .i64 n, .slice p N cap] 36)).alloc (.cells #[.slice pb lb cb] 34) := ⟨_, rfl⟩
  have b0 : Bl w W := by rw [hW]; exact ((Bl.refl _).alloc _).alloc _
  have mx0 : MBox W w.heap.size n n p N cap := by rw [hW]; exact (MBox.new w _ _ _ _ _ _).later ((Bl.refl _).alloc _)
  have bb0 : Boxed W (w.heap.size + 1) 34 (.slice pb lb cb) := by
    rw [hW]
    have := Boxed.new (w.alloc (.cells #[.int .i64 n, .int .i64 n, .slice p N cap] 36)) 34 (.slice pb lb cb)
    simpa using this
  have HW := hideP hW
  clear hW
  go_enter Tryz.func20, Tryz.ntmps20
  go_wp2_with fail
  rw [← HW.out]
  refine (tSquareN _ _ _ _ _ _).mono ?_
  rintro e w1 ⟨rfl, h1⟩
  rw [hsq]
  obtain ⟨c0, c1, c2, f0, f1, f2, lt⟩ := mx0.later h1
  have sb := (boxed_bl bb0 h1).cell
  go_wp2
  simp [bodyPost, results, Tryz.results20, go_sem]
  exact b0.trans h1
end Go.Proofs.YtbfdkahbnfpabaaGreat

/- What is solved of whole numbers: back again, and enclosed (layer 7, TriSolves). -/
namespace Go.Proofs.YtbfdkahbnfpabaaGreat
open Go.RowKit
set_option linter.unusedSimpArgs false
set_option linter.unusedVariables false

theorem map_range8 {α : Type} {xb : List Int} {m : Nat} (h : xb.length = m) (f : Int → α) : xb.map f = (List.range m).map fun i => f (xb.getD i 0) := by
  refine List.ext_getElem? fun i => ?_
  rw [List.getElem?_map, List.getElem?_map]
  by_cases hi : i < m
  · rw [List.getElem?_range hi, List.getElem?_eq_getElem (by omega)]
    simp [List.getD_eq_getElem?_getD, show i < xb.length by omega]
  · rw [List.getElem?_eq_none (by omega), List.getElem?_eq_none (by simp; omega)]
    rfl
theorem get_map8 {α : Type} {n t : Nat} (f : Nat → α) (h : t < n) {y : α} (hy : y = f t) {ys : List α} (hys : ys = (List.range n).map f) : ys[t]? = some y := by subst hy hys; simp [h]
theorem clrF_it8 (f : Nat → Nat → Int) (i k : Nat) : clrF (fun i k => itF (f i k)) i k = itF (clrI f i k) := by
  unfold clrF clrI
  split <;> rfl
theorem fold_fine8 : ∀ (xs : List Fr) (a : Fr), fineR a = !a.bad → fineR (xs.foldl addR a) = !(xs.foldl addR a).bad
  | [], a, h => h
  | x :: xs, a, _ => fold_fine8 xs (addR a x) (by
    unfold addR
    split
    · rw [ofQ_fine, ofQ_bad, Bool.not_not]
    · rfl)
theorem dot_fine8 (xs ys : List Fr) : fineR (dotF xs ys) = !(dotF xs ys).bad := fold_fine8 _ _ rfl
theorem div_fine8 (a b : Fr) : fineR (divR a b) = !(divR a b).bad := by
  unfold divR
  split
  · rw [ofQ_fine, ofQ_bad, Bool.not_not]
  · rfl
/-- In fractions. -/
abbrev solI (m : Nat) (fa : Nat → Nat → Int) (bI : Nat → Int) : List Fr := solveTo subR divR dotF (fun i k => itF (fa i k)) (fun i => wholeF (bI i)) m
/-- Enclosed. -/
abbrev solN (m : Nat) (fa : Nat → Nat → Int) (bI : Nat → Int) : List En := solveTo subE divE dotN (fun i k => wholeN (fa i k)) (fun i => wholeN (bI i)) m
theorem sol_back8 {m k : Nat} {fa : Nat → Nat → Int} {bI : Nat → Int} (hk : k < m) (hb : Wh (bI k)) (hbad : (dotF (rowM m (fun i k => itF (clrI fa i k)) k) (solI m fa bI)).bad = false) : dotF (rowM m (fun i k => itF (clrI fa i k)) k) (solI m fa bI) = itF (bI k) := by
  rw [← whole_it hb]
  refine solve_back (s := fun i k => itF (fa i k)) (b := fun i => wholeF (bI i)) hk (fun j hj => ?_) (fun j hj => ?_) (by rw [dot_fine8, hbad]; rfl)
  · show itF (clrI fa k j) = itF (fa k j)
    unfold clrI
    rw [if_pos hj]
  · show toQ (itF (clrI fa k j)) = 0
    unfold clrI
    rw [if_neg (by omega)]
    exact toQ_whole 0
theorem sol_encl8 {m k : Nat} {fa : Nat → Nat → Int} {bI : Nat → Int} (hm : m ≤ 16) (hs : Sm2 100 m m fa) (hk : k < m) {x : Fr} {z : En} (hx : (solI m fa bI)[k]? = some x) (hz : (solN m fa bI)[k]? = some z) (hxb : x.bad = false) (hzb : z.bad = false) : enclB z x.n x.d = true := by
  have e := solveTo_enc (n := m) (s := fun i k => wholeN (fa i k)) (f := fun i k => itF (fa i k)) (b := fun i => wholeN (bI i)) (c := fun i => wholeF (bI i))
    (fun i j hi hj => by have := hs i j hi hj; rw [← whole_it (show Wh (fa i j) from ⟨by omega, by omega⟩)]; exact encF_whole _) (fun i _ => encF_whole _) m (Nat.le_refl _)
  have hf : fineR x = true := by
    rw [solveTo_get _ _ _ _ _ hk] at hx
    cases hx
    unfold solveAt at hxb ⊢
    rw [div_fine8, hxb]
    rfl
  have h := encL_get e k z x hz hx hf
  obtain ⟨_, h1, h2, h3, h4, _⟩ := fineR_iff.1 hf
  exact encl_enq h ⟨by omega, by omega⟩ ⟨h1, h2⟩ hzb
/-- Whole, of rows. -/
theorem wholeF8 (p : Option Addr) (n cap : Nat) (xb : List Int) (w : World) (h : Rq 1 cI w (.slice p n cap) xb) (hn : xb.length = n) (hl : n ≤ 1000000) :
    Calls Tryz.prog 17 #[.slice p n cap] w fun e w' => ∃ q c, e = .returned (.slice q n c) ∧ Rw 3 cellsF w' (.slice q n c) ((List.range n).map fun i => wholeF (xb.getD i 0)) ∧ Bl w w' := by
  refine (vWholeF _ xb w h (by omega)).mono ?_
  rintro e w' ⟨u, rfl, hr, hb⟩
  obtain ⟨q, c, hv, _, _⟩ := hr.cut
  rw [List.length_map, hn] at hv
  subst hv
  rw [map_range8 hn] at hr
  exact ⟨q, c, rfl, hr, hb⟩
theorem wholeN8 (p : Option Addr) (n cap : Nat) (xb : List Int) (w : World) (h : Rq 1 cI w (.slice p n cap) xb) (hn : xb.length = n) (hl : n ≤ 1000000) :
    Calls Tryz.prog 21 #[.slice p n cap] w fun e w' => ∃ q c, e = .returned (.slice q n c) ∧ Rw 4 cellsN w' (.slice q n c) ((List.range n).map fun i => wholeN (xb.getD i 0)) ∧ Bl w w' := by
  refine (vWholeN _ xb w h (by omega)).mono ?_
  rintro e w' ⟨u, rfl, hr, hb⟩
  obtain ⟨q, c, hv, _, _⟩ := hr.cut
  rw [List.length_map, hn] at hv
  subst hv
  rw [map_range8 hn] at hr
  exact ⟨q, c, rfl, hr, hb⟩
/-- A row's cells. -/
theorem rwF8 {p : Option Addr} {n cap : Nat} {xs : List Fr} {w : World} (h : Rw 3 cellsF w (.slice p n cap) xs) (h0 : 0 < xs.length) : ∃ g o, p = some ⟨g, o, none⟩ ∧ ∀ k x, xs[k]? = some x → ∀ u, Bl w u → u.cell? ⟨g, o + k * 3, none⟩ = some (.int .i64 x.n) ∧ u.cell? ⟨g, o + k * 3 + 1, none⟩ = some (.int .i64 x.d) ∧ u.cell? ⟨g, o + k * 3 + 2, none⟩ = some (.bool x.bad) := by
  rcases h with ⟨_, e⟩ | ⟨g, o, c, e, _, hlt, hx⟩
  · rw [e] at h0; simp at h0
  · simp only [Value.slice.injEq] at e
    exact ⟨g, o, e.1, fun k x hk u hu => ⟨(bl_cell hu _ _ hlt).trans (hx k x hk 0 _ rfl), (bl_cell hu _ _ hlt).trans (hx k x hk 1 _ rfl), (bl_cell hu _ _ hlt).trans (hx k x hk 2 _ rfl)⟩⟩
theorem rwN8 {p : Option Addr} {n cap : Nat} {xs : List En} {w : World} (h : Rw 4 cellsN w (.slice p n cap) xs) (h0 : 0 < xs.length) : ∃ g o, p = some ⟨g, o, none⟩ ∧ ∀ k x, xs[k]? = some x → ∀ u, Bl w u → u.cell? ⟨g, o + k * 4, none⟩ = some (.int .i64 x.v) ∧ u.cell? ⟨g, o + k * 4 + 1, none⟩ = some (.int .i64 x.l) ∧ u.cell? ⟨g, o + k * 4 + 2, none⟩ = some (.int .i64 x.h) ∧ u.cell? ⟨g, o + k * 4 + 3, none⟩ = some (.bool x.bad) := by
  rcases h with ⟨_, e⟩ | ⟨g, o, c, e, _, hlt, hx⟩
  · rw [e] at h0; simp at h0
  · simp only [Value.slice.injEq] at e
    exact ⟨g, o, e.1, fun k x hk u hu => ⟨(bl_cell hu _ _ hlt).trans (hx k x hk 0 _ rfl), (bl_cell hu _ _ hlt).trans (hx k x hk 1 _ rfl), (bl_cell hu _ _ hlt).trans (hx k x hk 2 _ rfl), (bl_cell hu _ _ hlt).trans (hx k x hk 3 _ rfl)⟩⟩
end Go.Proofs.YtbfdkahbnfpabaaGreat

/- Contracts of mat's Unit, and of Whole with new memory, of fractions (layer 6). Written by genMa.py. -/
import Derived.Test.YtokbmbgiimbkpaaMaH
import Derived.Test.YtokbmbgiimbkpaaMaAF
/- Contract of the document's Mul (layer 6). -/
namespace Go.Proofs.Ytokbmbgiimbkpaa
open Go.RowKit
set_option linter.unusedSimpArgs false
set_option linter.unusedVariables false

theorem own_blI {w w' : World} {B n : Nat} {v : Value} {l : List Value} (h : w.ownsRow B 3 1 v n l) (k : Bl w w') : w'.ownsRow B 3 1 v n l := by
  refine ⟨h.1, ?_⟩
  rcases h.2 with hn | ⟨g, cap, cur, rfl, hb, hg, rest⟩
  · exact .inl hn
  · exact .inr ⟨g, cap, cur, rfl, hb, (Below.block k g (Array.getElem?_eq_some_iff.1 hg).1).trans hg, rest⟩
theorem newI_cells (w : World) (x : Int) (t : TypeId) : ∀ j u, (cellsI x)[j]? = some u → (w.alloc (.cells #[.int .i64 x] t)).cell? ((⟨w.heap.size, 0, none⟩ : Addr).add j) = some u := by
  intro j u hu
  unfold cellsI at hu
  rcases j with _ | j
  · simp at hu
    subst hu
    simp [go_sem, Addr.add]
  · simp at hu
set_option maxHeartbeats 2000000 in
theorem ref6Mul_any (pa qa : Option Addr) (na ca nb cb : Nat) (xa xb : List Int) (R M D : Nat) (w : World) (hd : Dim R M) (he : Dim M D) (ha : Rq 1 cI w (.slice pa na ca) xa) (hb : Rq 1 cI w (.slice qa nb cb) xb) (la : xa.length = R * M) (lb : xb.length = M * D) (lna : na = R * M) (lnb : nb = M * D) (sa : Sml 100 xa) (sb : Sml 100 xb) :
    Calls Try.prog 21 #[.slice pa na ca, .int .i64 R, .int .i64 M, .slice qa nb cb, .int .i64 D] w fun e w' => ∃ p cap, e = .returned (.slice p (R * D) cap) ∧ Rw 1 cellsI w' (.slice p (R * D) cap) (mk R D (mulI M (ofL M xa) (ofL D xb))) ∧ Bl w w' := by
  obtain ⟨i0, hi, hz0, hz1, hz2⟩ := info_parts Try.info_I
  have fm : Try.prog.follows .mixedOrders = true := by kernel_rfl
  have CA : ∀ i j, i < R → j < M → ∃ b o, pa = some ⟨b, o, none⟩ ∧ ∀ u, Bl w u → u.cell? ⟨b, o + (i * M + j), none⟩ = some (.int .i64 (ofL M xa i j)) := by
    intro i j hi' hj
    have hg := ofL_get la hi' hj
    rcases ha with ⟨_, _, _, h0, _⟩ | ⟨b, o, cc, e, _, hlt, HX⟩
    · rw [h0] at hg; simp at hg
    · cases e
      exact ⟨b, o, rfl, fun u hu => (bl_cell hu _ _ hlt).trans (cellI HX hg (wr := w))⟩
  have CB : ∀ j k, j < M → k < D → ∃ b o, qa = some ⟨b, o, none⟩ ∧ ∀ u, Bl w u → u.cell? ⟨b, o + (j * D + k), none⟩ = some (.int .i64 (ofL D xb j k)) := by
    intro i j hi' hj
    have hg := ofL_get lb hi' hj
    rcases hb with ⟨_, _, _, h0, _⟩ | ⟨b, o, cc, e, _, hlt, HX⟩
    · rw [h0] at hg; simp at hg
    · cases e
      exact ⟨b, o, rfl, fun u hu => (bl_cell hu _ _ hlt).trans (cellI HX hg (wr := w))⟩
  have BA := ofL_sml la sa
  have BB := ofL_sml lb sb
  have BM := fun (i k : Nat) (hi : i < R) (hk : k < D) => mulI_bound (A := 100) (B := 100) (by omega) (by omega) BA BB hi hk
  have HCA := hideP CA
  have HCB := hideP CB
  have HBA := hideP BA
  have HBB := hideP BB
  have HBM := hideP BM
  have hR16 := hd.r2
  have hM16 := hd.c2
  have hD16 := he.c2
  have HLA := hideP lna
  have HLB := hideP lnb
  clear CA CB BA BB BM ha hb la lb sa sb lna lnb
  generalize ofL M xa = fa at *
  generalize ofL D xb = fb at *
  go_enter Try.func21, Try.ntmps21
  go_wp2_with fail
  go_loopw [11, 12] (fun v i wr => ∃ j : Nat, i = .int .i64 j ∧ j ≤ R ∧ wr.ownsRow w.heap.size 3 1 v (mk j D (mulI M fa fb)).length ((mk j D (mulI M fa fb)).flatMap cellsI) ∧ Bl w wr) (fun _ i _ => R - (intOf i).toNat)
  case atStart => exact ⟨0, rfl, Nat.zero_le _, World.ownsRow_nil _ _ _ _, Bl.refl _⟩
  case round =>
    obtain ⟨j, rfl, hj, hown, hB⟩ := hrel
    by_cases hlt : j < R
    · go_wp2_with fail
      go_loopw [11, 13] (fun v i wr => ∃ k : Nat, i = .int .i64 k ∧ k ≤ D ∧ wr.ownsRow w.heap.size 3 1 v (mk j D (mulI M fa fb) ++ rowM k (mulI M fa fb) j).length ((mk j D (mulI M fa fb) ++ rowM k (mulI M fa fb) j).flatMap cellsI) ∧ Bl w wr) (fun _ i _ => D - (intOf i).toNat)
      case atStart => exact ⟨0, rfl, Nat.zero_le _, by simpa [rowM] using hown, hB⟩
      case round =>
        clear hown hB
        obtain ⟨k, rfl, hk, hown, hB⟩ := hrel
        by_cases hlt2 : k < D
        · have HO := hideP hown
          clear hown
          go_wp2_with fail
          go_loopw [14, 15] (fun s i wr' => ∃ m : Nat, i = .int .i64 m ∧ m ≤ M ∧ s = .int .i64 (mulI m fa fb j k) ∧ Bl wr wr') (fun _ i _ => M - (intOf i).toNat)
          case atStart => exact ⟨0, rfl, Nat.zero_le _, rfl, Bl.refl _⟩
          case round =>
            obtain ⟨m, rfl, hm, rfl, hB3⟩ := hrel
            by_cases hlt3 : m < M
            · obtain ⟨b, o, rfl, CX⟩ := HCA.out j m hlt hlt3
              obtain ⟨b', o', rfl, CY⟩ := HCB.out m k hlt3 hlt2
              obtain ⟨a1, q1, e1, e2, hq1, hq3, hq5, hq6⟩ := place hd hlt hlt3
              obtain ⟨a2, q2, e3, e4, hp1, hp3, hp5, hp6⟩ := place he hlt3 hlt2
              rw [← e2] at CX
              rw [← e4] at CY
              rw [← HLA.out] at hq5
              rw [← HLB.out] at hp5
              have cx := CX wr.drew (hB.trans hB3).drew
              have cy := CY wr.drew (hB.trans hB3).drew
              have bx := HBA.out j m hlt hlt3
              have bY := HBB.out m k hlt3 hlt2
              have bm := mul_bound bx bY
              have bd := HBM.out j k hlt hlt2 m hm
              have HS := hideP (mulI_succ m fa fb j k)
              clear CX CY e1 e2 e3 e4
              generalize mulI m fa fb j k = d at *
              generalize fa j m = x at *
              generalize fb m k = y at *
              generalize hxy : x * y = z at *
              go_wp2
              go_region
              go_wp2
              go_roundw
              case rel => exact ⟨m + 1, by simp, hlt3, by rw [HS.out], hB3.drew⟩
              case measure => simp [intOf]; omega
            · obtain rfl : m = M := by omega
              have hB4 := hB.trans hB3
              have hown := own_blI HO.out hB3
              have HT := hideP (show mk j D (mulI m fa fb) ++ rowM (k + 1) (mulI m fa fb) j = (mk j D (mulI m fa fb) ++ rowM k (mulI m fa fb) j) ++ [mulI m fa fb j k] by rw [rowM_succ, List.append_assoc])
              have hlen : (mk j D (mulI m fa fb) ++ rowM k (mulI m fa fb) j).length ≤ 256 := by
                have h1 : j * D + k < R * D := mk_idx hlt hlt2
                have h2 : R * D ≤ 256 := Nat.mul_le_mul hR16 hD16
                rw [List.length_append, mk_len, rowM_len]
                omega
              generalize mk j D (mulI m fa fb) ++ rowM k (mulI m fa fb) j = ys at *
              generalize mulI m fa fb j k = x at *
              go_wp2_with (at_builtin; refine wpList_append_own _ rfl _ _ 22 rfl w.heap.size 3 i0 (.int .i64 0) 1 8 Try.underlying22 hi hz0 hz1 hz2 rfl (by decide) _ _ _ rfl (hown.alloc _) ⟨_, 0, none⟩ 1 1 (cellsI x) rfl rfl (newI_cells _ _ _) (oneI_cells _) (by unfold maxLen; omega) (by omega) (by have := hB4.size; simp; omega) ?_; intro v' w1 hown' hgrow _)
              have R1 := own_more (ys := [x]) (hB4.alloc _) (Nat.le_refl _) (hown.alloc _) (by simpa using hown') rfl hgrow
              clear hown hown' hgrow
              go_wp2
              go_roundw
              case rel => exact ⟨k + 1, by simp, hlt2, by rw [HT.out]; exact R1.2, R1.1⟩
              case measure => simp [intOf]; omega
        · obtain rfl : k = D := by omega
          have HT := hideP (mk_succ j k (mulI M fa fb))
          go_wp2_with fail
          go_roundw
          case rel => exact ⟨j + 1, by simp, hlt, by rw [HT.out]; exact hown, hB⟩
          case measure => simp [intOf]; omega
    · obtain rfl : j = R := by omega
      have RW := hideP (Rw.of_own cellsI_len hown)
      obtain ⟨p', cap', hv, _, _⟩ := RW.out.cut
      rw [mk_len] at hv
      clear hown
      subst hv
      go_wp2
      go_ret
      exact ⟨p', cap', rfl, RW.out, hB⟩
end Go.Proofs.Ytokbmbgiimbkpaa

/- The unit, of whole numbers: mathematics (layer 6). -/
namespace Go.Proofs.Ytokbmbgiimbkpaa
open Go.RowKit
set_option linter.unusedSimpArgs false
set_option linter.unusedVariables false

/-- The unit's number. -/
def unitI (i k : Nat) : Int := if i = k then 1 else 0
/-- The unit's number, as far as row j. -/
def unitTo (j i k : Nat) : Int := if i = k ∧ i < j then 1 else 0
theorem flatI_map (xs : List Int) : xs.flatMap cellsI = xs.map (fun x => (.int .i64 x : Value)) := by
  induction xs with
  | nil => rfl
  | cons x xs ih => rw [List.flatMap_cons, ih]; rfl
theorem idx_inj {m i k i' k' : Nat} (hk : k < m) (hk' : k' < m) (e : i * m + k = i' * m + k') : i = i' ∧ k = k' := by
  have h1 : (i * m + k) / m = i := by rw [Nat.mul_comm, Nat.mul_add_div (by omega), Nat.div_eq_of_lt hk]; omega
  have h2 : (i' * m + k') / m = i' := by rw [Nat.mul_comm, Nat.mul_add_div (by omega), Nat.div_eq_of_lt hk']; omega
  have h3 : i = i' := by rw [← h1, ← h2, e]
  subst h3
  exact ⟨rfl, by omega⟩
theorem unitTo_zero (m : Nat) : mk m m (unitTo 0) = List.replicate (m * m) 0 :=
  (mk_ext _ _ (by simp) fun i k hi hk => by simp [List.getElem?_replicate, mk_idx hi hk, unitTo]).symm
theorem unitTo_set {m j : Nat} (h : j < m) : (mk m m (unitTo j)).set (j * m + j) 1 = mk m m (unitTo (j + 1)) :=
  mk_ext _ _ (by rw [List.length_set, mk_len]) fun i k hi hk => by
    rw [List.getElem?_set]
    by_cases e : j * m + j = i * m + k
    · obtain ⟨rfl, rfl⟩ := idx_inj h hk e
      have := mk_idx h h
      rw [if_pos e, if_pos (by rw [mk_len]; exact this)]
      simp [unitTo]
    · rw [if_neg e, mk_get _ hi hk]
      have : ¬ (i = k ∧ i = j) := fun ⟨h1, h2⟩ => e (by subst h1; rw [h2])
      unfold unitTo
      by_cases h1 : i = k
      · have h2 : i ≠ j := fun h => this ⟨h1, h⟩
        by_cases h3 : i < j
        · rw [if_pos ⟨h1, h3⟩, if_pos ⟨h1, by omega⟩]
        · rw [if_neg (fun h => h3 h.2), if_neg (fun h => by omega)]
      · rw [if_neg (fun h => h1 h.1), if_neg (fun h => h1 h.1)]
theorem unitTo_all (m : Nat) : mk m m (unitTo m) = mk m m unitI := mk_congr fun i k hi hk => by simp [unitTo, unitI, hi]
theorem unitTo_cells (m j : Nat) (h : j < m) : ((mk m m (unitTo j)).flatMap cellsI).set (j * m + j) (.int .i64 1) = (mk m m (unitTo (j + 1))).flatMap cellsI := by
  rw [flatI_map, flatI_map, ← unitTo_set h, List.map_set]
theorem unit_made (m n : Nat) (hn : n = m * m) : (madeCells (Value.cells (.int .i64 0)) (n * 1)).toList = (mk m m (unitTo 0)).flatMap cellsI := by
  rw [unitTo_zero, flatI_map, Nat.mul_one, List.map_replicate, ← hn]
  exact toList_madeCells_one _ _
theorem mulI_unit_r (a : Nat → Nat → Int) (i : Nat) : ∀ M k, mulI M a unitI i k = if k < M then a i k else 0 := by
  intro M
  induction M with
  | zero => intro k; simp [mulI_zero]
  | succ M ih =>
    intro k
    rw [mulI_succ, ih]
    unfold unitI
    by_cases h : k < M
    · rw [if_pos h, if_neg (by omega), if_pos (by omega)]; omega
    · by_cases h2 : M = k
      · subst h2; rw [if_neg h, if_pos rfl, if_pos (by omega)]; omega
      · rw [if_neg h, if_neg h2, if_neg (by omega)]; omega
theorem mulI_mul_r (M : Nat) (a b c : Nat → Nat → Int) (N : Nat) (i k : Nat) : mulI N (mulI M a b) c i k = mulI M a (mulI N b c) i k := by
  induction M with
  | zero =>
    induction N with
    | zero => rfl
    | succ N ih => rw [mulI_succ, ih]; simp [mulI_zero]
  | succ M ih =>
    rw [mulI_succ, ← ih]
    clear ih
    induction N with
    | zero => simp [mulI_zero]
    | succ N ih2 => rw [mulI_succ, mulI_succ, mulI_succ, mulI_succ, ih2, Int.add_mul, Int.mul_add, Int.mul_assoc]; omega
theorem mulI_turn (M : Nat) (a b : Nat → Nat → Int) (i k : Nat) : mulI M (fun i k => b k i) (fun i k => a k i) i k = mulI M a b k i := by
  induction M with
  | zero => rfl
  | succ M ih => rw [mulI_succ, mulI_succ, ih, Int.mul_comm]
end Go.Proofs.Ytokbmbgiimbkpaa

/- Contracts of mat's Unit, and of Whole with new memory, of fractions (layer 6). Written by genMa.py. -/
namespace Go.Proofs.Ytokbmbgiimbkpaa
open Go.RowKit
set_option linter.unusedSimpArgs false
set_option linter.unusedVariables false

theorem mWholeF' (r c : Int) (p : Option Addr) (n cap : Nat) (ns : List Int) (w : World) (hr : Rq 1 (fun n => [.int .i64 n]) w (.slice p n cap) ns) (h : fitB r c n = true) (hn : ns.length = n) :
    Calls Try.prog 12 #[.int .i64 r, .int .i64 c, .slice p n cap] w fun e w' => ∃ p' cap', e = .returned (.tuple #[mV r c p' n cap', .bool true]) ∧ (Rw 3 cellsF w' (.slice p' n cap') (ns.map wholeF) ∧ Fresh w.heap.size (.slice p' n cap')) ∧ Bl w w' := by
  have hl : n ≤ 1000000 := by obtain ⟨R, C, _, _, hd, rfl⟩ := fitB_nat h; have := hd.lt; omega
  obtain ⟨W, hW⟩ : ∃ W, W = w.alloc (.cells #[.int .i64 0, .int .i64 0, .slice none 0 0] 27) := ⟨_, rfl⟩
  have b0 : Bl w W := by rw [hW]; exact (Bl.refl _).alloc _
  have x0 : MBox W w.heap.size 0 0 none 0 0 := by rw [hW]; exact MBox.new w 0 0 none 0 0 _
  have hsz : W.heap.size = w.heap.size + 1 := by rw [hW]; simp
  have CL := hideP (vWholeF' (.slice p n cap) ns W (hr.later b0) (by omega))
  have HW := hideP hW
  clear hW hr
  go_enter Try.func12, Try.ntmps12
  go_wp2_with fail
  rw [← HW.out]
  refine (fits_any _ _ _ _).mono ?_
  rintro e w1 ⟨rfl, rfl⟩
  rw [h]
  go_wp2_with fail
  refine CL.out.mono ?_
  rintro e w2 ⟨u, rfl, hR, hF, h2⟩
  obtain ⟨p', cap', rfl, _, _⟩ := hR.cut
  rw [List.length_map, hn] at hR hF ⊢
  have HR := hideP hR
  have HF := hideP hF
  obtain ⟨c0, c1, c2, f0, f1, f2, lt⟩ := x0.later h2
  clear hR hF CL
  go_wp2
  simp [bodyPost, results, Try.results12, go_sem, c0, c1, c2]
  refine ⟨p', cap', ⟨rfl, rfl⟩, ⟨((HR.out.set _ ?_).set _ ?_).set _ ?_, fun g hg => ?_⟩, Bl.put3 (b0.trans h2) (Nat.le_refl _) _ _ _⟩
  · exact fun g hg => by have := HF.out g hg; show w.heap.size + 1 ≤ g; omega
  · exact fun g hg => by have := HF.out g hg; show w.heap.size + 1 ≤ g; omega
  · exact fun g hg => by have := HF.out g hg; show w.heap.size + 1 ≤ g; omega
  · have := HF.out g hg; omega
set_option maxHeartbeats 1000000 in
theorem mUnitF (m n : Nat) (h1 : 1 ≤ m) (h2 : m ≤ 16) (hn : n = m * m) (w : World) :
    Calls Try.prog 29 #[.int .i64 m] w fun e w' => ∃ p' cap', e = .returned (.tuple #[mV m m p' n cap', .bool true]) ∧ Mx 3 cellsF w' m m p' n cap' (fun i k => wholeF (unitI i k)) ∧ Bl w w' := by
  obtain ⟨i0, hi, hz0, hz1, hz2⟩ := info_parts Try.info_I
  have hs : sideB m = true := decide_eq_true ⟨by omega, by omega⟩
  have hd : Dim m m := ⟨h1, h2, h1, h2⟩
  have hmm : (m : Int) * (m : Int) = n := by rw [hn]; simp
  have hn256 : n ≤ 256 := by rw [hn]; exact hd.lt
  have hfit := hideP (fitB_dim hd hn)
  have HN := hideP hn
  clear hn
  have z0 := MBox.new w 0 0 none 0 0 27
  go_enter Try.func29, Try.ntmps29
  go_wp2_with fail
  refine (side_any _ _).mono ?_
  rintro e w1 ⟨rfl, rfl⟩
  rw [hs]
  go_wp2_with (at_make; refine wpList_make_full _ rfl _ _ 22 rfl (w.heap.size + 1) 3 i0 (.int .i64 0) 1 Try.underlying22 hi hz0 hz1 .i64 .i64 _ _ n rfl rfl (by simp) (by simp) (by rw [hz2]; omega) (by unfold maxLen; omega) (by simp) ?_; intro w0 hown0 hgrow0)
  rw [unit_made m n HN.out] at hown0
  have hB0 : Bl w w0 := ((Bl.refl w).alloc _).grown hgrow0 (by simp) (fun k e => by cases e)
  have hz : MBox w0 w.heap.size 0 0 none 0 0 := mbox_block z0 (hgrow0.block _ z0.lt nofun) hgrow0.size
  clear hgrow0 z0
  try simp only [World.size_alloc] at hown0 ⊢
  go_loopw [15] (fun i wr => ∃ j : Nat, i = .int .i64 j ∧ j ≤ m ∧ wr.ownsRow (w.heap.size + 1) 3 1 (.slice (some ⟨w.heap.size + 1, 0, none⟩) n n) n ((mk m m (unitTo j)).flatMap cellsI) ∧ MBox wr w.heap.size 0 0 none 0 0 ∧ Bl w wr) (fun i _ => m - (intOf i).toNat)
  case atStart => exact ⟨0, rfl, Nat.zero_le _, hown0, hz, hB0⟩
  case round =>
    clear hown0 hz hB0
    obtain ⟨j, rfl, hj, hown, hz, hB⟩ := hrel
    by_cases hlt : j < m
    · obtain ⟨a, q, e1, e2, hq1, hq3, hq5, hq6⟩ := place hd hlt hlt
      rw [← HN.out] at hq5
      have cq : wr.cell? ⟨w.heap.size + 1, q, none⟩ = some (.int .i64 (unitTo j j j)) := by
        rw [hown.cellAt q (by omega), flatI_map, List.getElem?_map, e2, mk_get _ hlt hlt]; rfl
      have fq := hown.frozenAt q
      have ST := hideP (hown.stored q (.int .i64 1))
      have EQ := hideP e2
      clear hown e1 e2
      generalize unitTo j j j = x at *
      go_wp2
      go_roundw
      case rel =>
        refine ⟨j + 1, by simp, hlt, ?_, mbox_block hz (ST.out.2.block _ hz.lt (by simp)) ST.out.2.size, Bl.set hB (Nat.le_succ _) _⟩
        have := ST.out.1
        rw [EQ.out] at this ⊢
        rw [unitTo_cells m j hlt] at this
        exact this
      case measure => simp [intOf]; omega
    · obtain rfl : j = m := by omega
      have hr : Rq 1 cI wr (.slice (some ⟨w.heap.size + 1, 0, none⟩) n n) (mk j j unitI) := by
        rw [← unitTo_all]
        exact (Rw.of_own cellsI_len (xs := mk j j (unitTo j)) (by rw [mk_len, ← HN.out]; exact hown)).q
      have WH := hideP (mWholeF' j j _ n n (mk j j unitI) wr hr hfit.out (by rw [mk_len, HN.out]))
      clear hr hown
      go_wp2_with fail
      refine WH.out.mono ?_
      rintro e w2 ⟨p', cap', rfl, ⟨hR, hF⟩, h2⟩
      have HR := hideP hR
      have HF := hideP (show Fresh (w.heap.size + 1) (.slice p' n cap') from fun g hg => by have := hF g hg; have := hz.lt; omega)
      clear hR hF WH
      obtain ⟨c0, c1, c2, f0, f1, f2, lt⟩ := hz.later h2
      go_wp2
      simp [bodyPost, results, Try.results29, go_sem, c0, c1, c2]
      have q := ((HR.out.set (p := ⟨w.heap.size, 0, none⟩) (.int .i64 j) HF.out).set (p := ⟨w.heap.size, 1, none⟩) (.int .i64 j) HF.out).set (p := ⟨w.heap.size, 2, none⟩) (.slice p' n cap') HF.out
      rw [mk_map] at q
      exact ⟨p', cap', ⟨rfl, rfl⟩, ⟨hd, HN.out, q.q⟩, Bl.put3 (hB.trans h2) (Nat.le_refl _) _ _ _⟩
end Go.Proofs.Ytokbmbgiimbkpaa

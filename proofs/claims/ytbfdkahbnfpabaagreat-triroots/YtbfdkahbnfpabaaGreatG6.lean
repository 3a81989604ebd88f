/- awake of layer 7's laws; whether a number is 0, as the laws' closures tell it. -/
import Derived.Test.YtbfdkahbnfpabaaGreatG0
import Derived.Test.YtbfdkahbnfpabaaGreatG5
import Derived.Test.YtbfdkahbnfpabaaGreatMaEF
import Derived.Laws.EntriesVeiled
import Derived.Test.YtbfdkahbnfpabaaGreatMaGF
/- Contract of the document's Mul (layer 6). -/
namespace Go.Proofs.YtbfdkahbnfpabaaGreat
open Go.RowKit
set_option linter.unusedSimpArgs false
set_option linter.unusedVariables false

theorem own_blI {w w' : World} {B n : Nat} {v : Value} {l : List Value} (h : w.ownsRow B 3 1 v n l) (k : Bl w w') : w'.ownsRow B 3 1 v n l := by
  refine ⟨h.1, ?_⟩
  rcases h.2 with hn | ⟨g, cap, cur, rfl, hb, hg, rest⟩
  · exact .inl hn
  · exact .inr ⟨g, cap, cur, rfl, hb, (Below.block k g (Array.getElem?_eq_some_iff.1 hg).1).trans hg, rest⟩
theorem newI_cells (w : World) (x : Int) (t : TypeId) : ∀ j u, (cellsI x)[j]? = some u → (w.alloc (.cells #[.int .i64 x] t)).cell? ((⟨w.heap.size, 0, none⟩ : Addr).add j) = some u := by
  intro j u hu
  unfold cellsI at hu
  rcases j with _ | j
  · simp at hu
    subst hu
    simp [go_sem, Addr.add]
  · simp at hu
set_option maxHeartbeats 2000000 in
theorem ref6Mul_any (pa qa : Option Addr) (na ca nb cb : Nat) (xa xb : List Int) (R M D : Nat) (w : World) (hd : Dim R M) (he : Dim M D) (ha : Rq 1 cI w (.slice pa na ca) xa) (hb : Rq 1 cI w (.slice qa nb cb) xb) (la : xa.length = R * M) (lb : xb.length = M * D) (lna : na = R * M) (lnb : nb = M * D) (sa : Sml 100 xa) (sb : Sml 100 xb) :
    Calls Tryz.prog 27 #[.slice pa na ca, .int .i64 R, .int .i64 M, .slice qa nb cb, .int .i64 D] w fun e w' => ∃ p cap, e = .returned (.slice p (R * D) cap) ∧ Rw 1 cellsI w' (.slice p (R * D) cap) (mk R D (mulI M (ofL M xa) (ofL D xb))) ∧ Bl w w' := by
  obtain ⟨i0, hi, hz0, hz1, hz2⟩ := info_parts Tryz.info_I
  have fm : Tryz.prog.follows .mixedOrders = true := by kernel_rfl
  have CA : ∀ i j, i < R → j < M → ∃ b o, pa = some ⟨b, o, none⟩ ∧ ∀ u, Bl w u → u.cell? ⟨b, o + (i * M + j), none⟩ = some (.int .i64 (ofL M xa i j)) := by
    intro i j hi' hj
    have hg := ofL_get la hi' hj
    rcases ha with ⟨_, _, _, h0, _⟩ | ⟨b, o, cc, e, _, hlt, HX⟩
    · rw [h0] at hg; simp at hg
    · cases e
      exact ⟨b, o, rfl, fun u hu => (bl_cell hu _ _ hlt).trans (cellI HX hg (wr := w))⟩
  have CB : ∀ j k, j < M → k < D → ∃ b o, qa = some ⟨b, o, none⟩ ∧ ∀ u, Bl w u → u.cell? ⟨b, o + (j * D + k), none⟩ = some (.int .i64 (ofL D xb j k)) := by
    intro i j hi' hj
    have hg := ofL_get lb hi' hj
    rcases hb with ⟨_, _, _, h0, _⟩ | ⟨b, o, cc, e, _, hlt, HX⟩
    · rw [h0] at hg; simp at hg
    · cases e
      exact ⟨b, o, rfl, fun u hu => (bl_cell hu _ _ hlt).trans (cellI HX hg (wr := w))⟩
  have BA := ofL_sml la sa
  have BB := ofL_sml lb sb
  have BM := fun (i k : Nat) (hi : i < R) (hk : k < D) => mulI_bound (A := 100) (B := 100) (by omega) (by omega) BA BB hi hk
  have HCA := hideP CA
  have HCB := hideP CB
  have HBA := hideP BA
  have HBB := hideP BB
  have HBM := hideP BM
  have hR16 := hd.r2
  have hM16 := hd.c2
  have hD16 := he.c2
  have HLA := hideP lna
  have HLB := hideP lnb
  clear CA CB BA BB BM ha hb la lb sa sb lna lnb
  generalize ofL M xa = fa at *
  generalize ofL D xb = fb at *
  go_enter Tryz.func27, Tryz.ntmps27
  go_wp2_with fail
  go_loopw [11, 12] (fun v i wr => ∃ j : Nat, i = .int .i64 j ∧ j ≤ R ∧ wr.ownsRow w.heap.size 3 1 v (mk j D (mulI M fa fb)).length ((mk j D (mulI M fa fb)).flatMap cellsI) ∧ Bl w wr) (fun _ i _ => R - (intOf i).toNat)
  case atStart => exact ⟨0, rfl, Nat.zero_le _, World.ownsRow_nil _ _ _ _, Bl.refl _⟩
  case round =>
    obtain ⟨j, rfl, hj, hown, hB⟩ := hrel
    by_cases hlt : j < R
    · go_wp2_with fail
      go_loopw [11, 13] (fun v i wr => ∃ k : Nat, i = .int .i64 k ∧ k ≤ D ∧ wr.ownsRow w.heap.size 3 1 v (mk j D (mulI M fa fb) ++ rowM k (mulI M fa fb) j).length ((mk j D (mulI M fa fb) ++ rowM k (mulI M fa fb) j).flatMap cellsI) ∧ Bl w wr) (fun _ i _ => D - (intOf i).toNat)
      case atStart => exact ⟨0, rfl, Nat.zero_le _, by simpa [rowM] using hown, hB⟩
      case round =>
        clear hown hB
        obtain ⟨k, rfl, hk, hown, hB⟩ := hrel
        by_cases hlt2 : k < D
        · have HO := hideP hown
          clear hown
          go_wp2_with fail
          go_loopw [14, 15] (fun s i wr' => ∃ m : Nat, i = .int .i64 m ∧ m ≤ M ∧ s = .int .i64 (mulI m fa fb j k) ∧ Bl wr wr') (fun _ i _ => M - (intOf i).toNat)
          case atStart => exact ⟨0, rfl, Nat.zero_le _, rfl, Bl.refl _⟩
          case round =>
            obtain ⟨m, rfl, hm, rfl, hB3⟩ := hrel
            by_cases hlt3 : m < M
            · obtain ⟨b, o, rfl, CX⟩ := HCA.out j m hlt hlt3
              obtain ⟨b', o', rfl, CY⟩ := HCB.out m k hlt3 hlt2
              obtain ⟨a1, q1, e1, e2, hq1, hq3, hq5, hq6⟩ := place hd hlt hlt3
              obtain ⟨a2, q2, e3, e4, hp1, hp3, hp5, hp6⟩ := place he hlt3 hlt2
              rw [← e2] at CX
              rw [← e4] at CY
              rw [← HLA.out] at hq5
              rw [← HLB.out] at hp5
              have cx := CX wr.drew (hB.trans hB3).drew
              have cy := CY wr.drew (hB.trans hB3).drew
              have bx := HBA.out j m hlt hlt3
              have bY := HBB.out m k hlt3 hlt2
              have bm := mul_bound bx bY
              have bd := HBM.out j k hlt hlt2 m hm
              have HS := hideP (mulI_succ m fa fb j k)
              clear CX CY e1 e2 e3 e4
              generalize mulI m fa fb j k = d at *
              generalize fa j m = x at *
              generalize fb m k = y at *
              generalize hxy : x * y = z at *
              go_wp2
              go_region
              go_wp2
              go_roundw
              case rel => exact ⟨m + 1, by simp, hlt3, by rw [HS.out], hB3.drew⟩
              case measure => simp [intOf]; omega
            · obtain rfl : m = M := by omega
              have hB4 := hB.trans hB3
              have hown := own_blI HO.out hB3
              have HT := hideP (show mk j D (mulI m fa fb) ++ rowM (k + 1) (mulI m fa fb) j = (mk j D (mulI m fa fb) ++ rowM k (mulI m fa fb) j) ++ [mulI m fa fb j k] by rw [rowM_succ, List.append_assoc])
              have hlen : (mk j D (mulI m fa fb) ++ rowM k (mulI m fa fb) j).length ≤ 256 := by
                have h1 : j * D + k < R * D := mk_idx hlt hlt2
                have h2 : R * D ≤ 256 := Nat.mul_le_mul hR16 hD16
                rw [List.length_append, mk_len, rowM_len]
                omega
              generalize mk j D (mulI m fa fb) ++ rowM k (mulI m fa fb) j = ys at *
              generalize mulI m fa fb j k = x at *
              go_wp2_with (at_builtin; refine wpList_append_own _ rfl _ _ 22 rfl w.heap.size 3 i0 (.int .i64 0) 1 8 Tryz.underlying22 hi hz0 hz1 hz2 rfl (by decide) _ _ _ rfl (hown.alloc _) ⟨_, 0, none⟩ 1 1 (cellsI x) rfl rfl (newI_cells _ _ _) (oneI_cells _) (by unfold maxLen; omega) (by omega) (by have := hB4.size; simp; omega) ?_; intro v' w1 hown' hgrow _)
              have R1 := own_more (ys := [x]) (hB4.alloc _) (Nat.le_refl _) (hown.alloc _) (by simpa using hown') rfl hgrow
              clear hown hown' hgrow
              go_wp2
              go_roundw
              case rel => exact ⟨k + 1, by simp, hlt2, by rw [HT.out]; exact R1.2, R1.1⟩
              case measure => simp [intOf]; omega
        · obtain rfl : k = D := by omega
          have HT := hideP (mk_succ j k (mulI M fa fb))
          go_wp2_with fail
          go_roundw
          case rel => exact ⟨j + 1, by simp, hlt, by rw [HT.out]; exact hown, hB⟩
          case measure => simp [intOf]; omega
    · obtain rfl : j = R := by omega
      have RW := hideP (Rw.of_own cellsI_len hown)
      obtain ⟨p', cap', hv, _, _⟩ := RW.out.cut
      rw [mk_len] at hv
      clear hown
      subst hv
      go_wp2
      go_ret
      exact ⟨p', cap', rfl, RW.out, hB⟩
end Go.Proofs.YtbfdkahbnfpabaaGreat

/- Contracts of the document's Clear, Turn, Square of layer 7, and of the laws' sides. Written by genTl.py. -/
namespace Go.Proofs.YtbfdkahbnfpabaaGreat
open Go.RowKit
set_option linter.unusedSimpArgs false
set_option linter.unusedVariables false

/-- Cleared. -/
def clrI (f : Nat → Nat → Int) (i k : Nat) : Int := if k ≤ i then f i k else 0
/-- A square. -/
def sqI (n : Nat) (f : Nat → Nat → Int) : Nat → Nat → Int := mulI n f (fun i k => f k i)
theorem mulI_congr7 {M : Nat} {a b a' b' : Nat → Nat → Int} {i k : Nat} (h1 : ∀ j, j < M → a i j = a' i j) (h2 : ∀ j, j < M → b j k = b' j k) : mulI M a b i k = mulI M a' b' i k := by
  unfold mulI
  congr 1
  · exact List.map_congr_left fun j hj => h1 j (by simpa using hj)
  · exact List.map_congr_left fun j hj => h2 j (by simpa using hj)
theorem ofL_mk7 {R C : Nat} (f : Nat → Nat → Int) {i k : Nat} (hi : i < R) (hk : k < C) : ofL C (mk R C f) i k = f i k := by
  have h := ofL_get (R := R) (M := C) (ns := mk R C f) (by rw [mk_len]) hi hk
  rw [mk_get f hi hk] at h
  exact (Option.some.inj h).symm

set_option maxHeartbeats 2000000 in
theorem ref7Clear_any (pa : Option Addr) (na ca : Nat) (xa : List Int) (n : Nat) (w : World) (hd : Dim n n) (ha : Rq 1 cI w (.slice pa na ca) xa) (la : xa.length = n * n) (lna : na = n * n) :
    Calls Tryz.prog 7 #[.slice pa na ca, .int .i64 n] w fun e w' => ∃ p cap, e = .returned (.slice p (n * n) cap) ∧ Rw 1 cellsI w' (.slice p (n * n) cap) (mk n n (clrI (ofL n xa))) ∧ Bl w w' := by
  obtain ⟨i0, hi, hz0, hz1, hz2⟩ := info_parts Tryz.info_I
  have fm : Tryz.prog.follows .mixedOrders = true := by kernel_rfl
  have CA : ∀ i j, i < n → j < n → ∃ b o, pa = some ⟨b, o, none⟩ ∧ ∀ u, Bl w u → u.cell? ⟨b, o + (i * n + j), none⟩ = some (.int .i64 (ofL n xa i j)) := by
    intro i j hi' hj
    have hg := ofL_get la hi' hj
    rcases ha with ⟨_, _, _, h0, _⟩ | ⟨b, o, cc, e, _, hlt, HX⟩
    · rw [h0] at hg; simp at hg
    · cases e
      exact ⟨b, o, rfl, fun u hu => (bl_cell hu _ _ hlt).trans (cellI HX hg (wr := w))⟩
  have HCA := hideP CA
  have hR16 := hd.r2
  have HLA := hideP lna
  clear CA ha la lna
  generalize ofL n xa = fa at *
  go_enter Tryz.func7, Tryz.ntmps7
  go_wp2_with fail
  go_loopw [5, 6] (fun v i wr => ∃ j : Nat, i = .int .i64 j ∧ j ≤ n ∧ wr.ownsRow w.heap.size 3 1 v (mk j n (clrI fa)).length ((mk j n (clrI fa)).flatMap cellsI) ∧ Bl w wr) (fun _ i _ => n - (intOf i).toNat)
  case atStart => exact ⟨0, rfl, Nat.zero_le _, World.ownsRow_nil _ _ _ _, Bl.refl _⟩
  case round =>
    obtain ⟨j, rfl, hj, hown, hB⟩ := hrel
    by_cases hlt : j < n
    · go_wp2_with fail
      go_loopw [5, 7] (fun v i wr => ∃ k : Nat, i = .int .i64 k ∧ k ≤ n ∧ wr.ownsRow w.heap.size 3 1 v (mk j n (clrI fa) ++ rowM k (clrI fa) j).length ((mk j n (clrI fa) ++ rowM k (clrI fa) j).flatMap cellsI) ∧ Bl w wr) (fun _ i _ => n - (intOf i).toNat)
      case atStart => exact ⟨0, rfl, Nat.zero_le _, by simpa [rowM] using hown, hB⟩
      case round =>
        clear hown hB
        obtain ⟨k, rfl, hk, hown, hB⟩ := hrel
        by_cases hlt2 : k < n
        · have hlen : (mk j n (clrI fa) ++ rowM k (clrI fa) j).length ≤ 256 := by
            have h1 : j * n + k < n * n := mk_idx hlt hlt2
            have h2 : n * n ≤ 256 := Nat.mul_le_mul hR16 hR16
            rw [List.length_append, mk_len, rowM_len]
            omega
          have HT := hideP (show mk j n (clrI fa) ++ rowM (k + 1) (clrI fa) j = (mk j n (clrI fa) ++ rowM k (clrI fa) j) ++ [(clrI fa) j k] by rw [rowM_succ, List.append_assoc])
          by_cases hki : k ≤ j
          · have hki' : ¬ ((k : Int) > j) := by omega
            obtain ⟨x, hx⟩ : ∃ x, x = fa j k := ⟨_, rfl⟩
            have HT2 := hideP (show (mk j n (clrI fa) ++ rowM k (clrI fa) j) ++ [(clrI fa) j k] = (mk j n (clrI fa) ++ rowM k (clrI fa) j) ++ [x] by rw [hx, show clrI fa j k = fa j k from if_pos hki])
            have HT3 := hideP (HT.out.trans HT2.out)
            obtain ⟨b, o, rfl, CX⟩ := HCA.out j k hlt hlt2
            obtain ⟨a1, q1, e1, e2, hq1, hq3, hq5, hq6⟩ := place hd hlt hlt2
            rw [← e2] at CX
            rw [← HLA.out] at hq5
            have cx := CX wr hB
            rw [← hx] at cx
            clear CX e1 e2
            clear HT HT2
            have HX := hideP hx
            clear hx
            generalize mk j n (clrI fa) ++ rowM k (clrI fa) j = ys at *
            go_wp2_with (at_builtin; refine wpList_append_own _ rfl _ _ 22 rfl w.heap.size 3 i0 (.int .i64 0) 1 8 Tryz.underlying22 hi hz0 hz1 hz2 rfl (by decide) _ _ _ rfl (hown.alloc _) ⟨_, 0, none⟩ 1 1 (cellsI x) rfl rfl (newI_cells _ _ _) (oneI_cells _) (by unfold maxLen; omega) (by omega) (by have := hB.size; simp; omega) ?_; intro v' w1 hown' hgrow _)
            have R1 := own_more (ys := [x]) (hB.alloc _) (Nat.le_refl _) (hown.alloc _) (by simpa using hown') rfl hgrow
            clear hown hown' hgrow
            go_wp2
            go_roundw
            case rel => exact ⟨k + 1, by simp, hlt2, by rw [HT3.out]; exact R1.2, R1.1⟩
            case measure => simp [intOf]; omega
          · have hki' : (k : Int) > j := by omega
            obtain ⟨x, hx⟩ : ∃ x, x = (0 : Int) := ⟨_, rfl⟩
            have HT2 := hideP (show (mk j n (clrI fa) ++ rowM k (clrI fa) j) ++ [(clrI fa) j k] = (mk j n (clrI fa) ++ rowM k (clrI fa) j) ++ [x] by rw [hx, show clrI fa j k = 0 from if_neg hki])
            have HT3 := hideP (HT.out.trans HT2.out)
  
            clear HT HT2
            subst hx
            generalize mk j n (clrI fa) ++ rowM k (clrI fa) j = ys at *
            go_wp2_with (at_builtin; refine wpList_append_own _ rfl _ _ 22 rfl w.heap.size 3 i0 (.int .i64 0) 1 8 Tryz.underlying22 hi hz0 hz1 hz2 rfl (by decide) _ _ _ rfl (hown.alloc _) ⟨_, 0, none⟩ 1 1 (cellsI (0 : Int)) rfl rfl (newI_cells _ _ _) (oneI_cells _) (by unfold maxLen; omega) (by omega) (by have := hB.size; simp; omega) ?_; intro v' w1 hown' hgrow _)
            have R1 := own_more (ys := [(0 : Int)]) (hB.alloc _) (Nat.le_refl _) (hown.alloc _) (by simpa using hown') rfl hgrow
            clear hown hown' hgrow
            go_wp2
            go_roundw
            case rel => exact ⟨k + 1, by simp, hlt2, by rw [HT3.out]; exact R1.2, R1.1⟩
            case measure => simp [intOf]; omega
        · obtain rfl : k = n := by omega
          have HT := hideP (mk_succ j k (clrI fa))
          go_wp2_with fail
          go_roundw
          case rel => exact ⟨j + 1, by simp, hlt, by rw [HT.out]; exact hown, hB⟩
          case measure => simp [intOf]; omega
    · obtain rfl : j = n := by omega
      have RW := hideP (Rw.of_own cellsI_len hown)
      obtain ⟨p', cap', hv, _, _⟩ := RW.out.cut
      rw [mk_len] at hv
      clear hown
      subst hv
      go_wp2
      go_ret
      exact ⟨p', cap', rfl, RW.out, hB⟩

set_option maxHeartbeats 2000000 in
theorem ref7Turn_any (pa : Option Addr) (na ca : Nat) (xa : List Int) (n : Nat) (w : World) (hd : Dim n n) (ha : Rq 1 cI w (.slice pa na ca) xa) (la : xa.length = n * n) (lna : na = n * n) :
    Calls Tryz.prog 28 #[.slice pa na ca, .int .i64 n] w fun e w' => ∃ p cap, e = .returned (.slice p (n * n) cap) ∧ Rw 1 cellsI w' (.slice p (n * n) cap) (mk n n (fun i k => ofL n xa k i)) ∧ Bl w w' := by
  obtain ⟨i0, hi, hz0, hz1, hz2⟩ := info_parts Tryz.info_I
  have fm : Tryz.prog.follows .mixedOrders = true := by kernel_rfl
  have CA : ∀ i j, i < n → j < n → ∃ b o, pa = some ⟨b, o, none⟩ ∧ ∀ u, Bl w u → u.cell? ⟨b, o + (i * n + j), none⟩ = some (.int .i64 (ofL n xa i j)) := by
    intro i j hi' hj
    have hg := ofL_get la hi' hj
    rcases ha with ⟨_, _, _, h0, _⟩ | ⟨b, o, cc, e, _, hlt, HX⟩
    · rw [h0] at hg; simp at hg
    · cases e
      exact ⟨b, o, rfl, fun u hu => (bl_cell hu _ _ hlt).trans (cellI HX hg (wr := w))⟩
  have HCA := hideP CA
  have hR16 := hd.r2
  have HLA := hideP lna
  clear CA ha la lna
  generalize ofL n xa = fa at *
  go_enter Tryz.func28, Tryz.ntmps28
  go_wp2_with fail
  go_loopw [5, 6] (fun v i wr => ∃ j : Nat, i = .int .i64 j ∧ j ≤ n ∧ wr.ownsRow w.heap.size 3 1 v (mk j n (fun i k => fa k i)).length ((mk j n (fun i k => fa k i)).flatMap cellsI) ∧ Bl w wr) (fun _ i _ => n - (intOf i).toNat)
  case atStart => exact ⟨0, rfl, Nat.zero_le _, World.ownsRow_nil _ _ _ _, Bl.refl _⟩
  case round =>
    obtain ⟨j, rfl, hj, hown, hB⟩ := hrel
    by_cases hlt : j < n
    · go_wp2_with fail
      go_loopw [5, 7] (fun v i wr => ∃ k : Nat, i = .int .i64 k ∧ k ≤ n ∧ wr.ownsRow w.heap.size 3 1 v (mk j n (fun i k => fa k i) ++ rowM k (fun i k => fa k i) j).length ((mk j n (fun i k => fa k i) ++ rowM k (fun i k => fa k i) j).flatMap cellsI) ∧ Bl w wr) (fun _ i _ => n - (intOf i).toNat)
      case atStart => exact ⟨0, rfl, Nat.zero_le _, by simpa [rowM] using hown, hB⟩
      case round =>
        clear hown hB
        obtain ⟨k, rfl, hk, hown, hB⟩ := hrel
        by_cases hlt2 : k < n
        · have hlen : (mk j n (fun i k => fa k i) ++ rowM k (fun i k => fa k i) j).length ≤ 256 := by
            have h1 : j * n + k < n * n := mk_idx hlt hlt2
            have h2 : n * n ≤ 256 := Nat.mul_le_mul hR16 hR16
            rw [List.length_append, mk_len, rowM_len]
            omega
          have HT := hideP (show mk j n (fun i k => fa k i) ++ rowM (k + 1) (fun i k => fa k i) j = (mk j n (fun i k => fa k i) ++ rowM k (fun i k => fa k i) j) ++ [(fun i k => fa k i) j k] by rw [rowM_succ, List.append_assoc])
          obtain ⟨x, hx⟩ : ∃ x, x = fa k j := ⟨_, rfl⟩
          have HT2 := hideP (show (mk j n (fun i k => fa k i) ++ rowM k (fun i k => fa k i) j) ++ [(fun i k => fa k i) j k] = (mk j n (fun i k => fa k i) ++ rowM k (fun i k => fa k i) j) ++ [x] by rw [hx])
          have HT3 := hideP (HT.out.trans HT2.out)
          obtain ⟨b, o, rfl, CX⟩ := HCA.out k j hlt2 hlt
          obtain ⟨a1, q1, e1, e2, hq1, hq3, hq5, hq6⟩ := place hd hlt2 hlt
          rw [← e2] at CX
          rw [← HLA.out] at hq5
          have cx := CX wr hB
          rw [← hx] at cx
          clear CX e1 e2
          clear HT HT2
          have HX := hideP hx
          clear hx
          generalize mk j n (fun i k => fa k i) ++ rowM k (fun i k => fa k i) j = ys at *
          go_wp2_with (at_builtin; refine wpList_append_own _ rfl _ _ 22 rfl w.heap.size 3 i0 (.int .i64 0) 1 8 Tryz.underlying22 hi hz0 hz1 hz2 rfl (by decide) _ _ _ rfl (hown.alloc _) ⟨_, 0, none⟩ 1 1 (cellsI x) rfl rfl (newI_cells _ _ _) (oneI_cells _) (by unfold maxLen; omega) (by omega) (by have := hB.size; simp; omega) ?_; intro v' w1 hown' hgrow _)
          have R1 := own_more (ys := [x]) (hB.alloc _) (Nat.le_refl _) (hown.alloc _) (by simpa using hown') rfl hgrow
          clear hown hown' hgrow
          go_wp2
          go_roundw
          case rel => exact ⟨k + 1, by simp, hlt2, by rw [HT3.out]; exact R1.2, R1.1⟩
          case measure => simp [intOf]; omega
        · obtain rfl : k = n := by omega
          have HT := hideP (mk_succ j k (fun i k => fa k i))
          go_wp2_with fail
          go_roundw
          case rel => exact ⟨j + 1, by simp, hlt, by rw [HT.out]; exact hown, hB⟩
          case measure => simp [intOf]; omega
    · obtain rfl : j = n := by omega
      have RW := hideP (Rw.of_own cellsI_len hown)
      obtain ⟨p', cap', hv, _, _⟩ := RW.out.cut
      rw [mk_len] at hv
      clear hown
      subst hv
      go_wp2
      go_ret
      exact ⟨p', cap', rfl, RW.out, hB⟩

set_option maxHeartbeats 1000000 in
theorem ref7Square_any (pa : Option Addr) (na ca : Nat) (xa : List Int) (n : Nat) (w : World) (hd : Dim n n) (ha : Rq 1 cI w (.slice pa na ca) xa) (la : xa.length = n * n) (lna : na = n * n) (sa : Sml 100 xa) :
    Calls Tryz.prog 9 #[.slice pa na ca, .int .i64 n] w fun e w' => ∃ p cap, e = .returned (.slice p (n * n) cap) ∧ Rw 1 cellsI w' (.slice p (n * n) cap) (mk n n (sqI n (ofL n xa))) ∧ Bl w w' := by
  have T := hideP (ref7Turn_any pa na ca xa n w hd ha la lna)
  have st : Sml 100 (mk n n (fun i k => ofL n xa k i)) := by
    intro x hx
    obtain ⟨i, hi, hx⟩ := List.mem_flatMap.1 hx
    obtain ⟨k, hk, rfl⟩ := List.mem_map.1 hx
    exact ofL_sml la sa k i (by simpa using hk) (by simpa using hi)
  obtain ⟨xt, hxt⟩ : ∃ xt, xt = mk n n (fun i k => ofL n xa k i) := ⟨_, rfl⟩
  have hlt : xt.length = n * n := by rw [hxt, mk_len]
  rw [← hxt] at T st
  have M : ∀ p cap (u : World), Bl w u → Rw 1 cellsI u (.slice p (n * n) cap) xt → Calls Tryz.prog 27 #[.slice pa na ca, .int .i64 n, .int .i64 n, .slice p (n * n) cap, .int .i64 n] u fun e w' => ∃ p cap, e = .returned (.slice p (n * n) cap) ∧ Rw 1 cellsI w' (.slice p (n * n) cap) (mk n n (mulI n (ofL n xa) (ofL n xt))) ∧ Bl u w' := fun p cap (u : World) (hu : Bl w u) (hr : Rw 1 cellsI u (.slice p (n * n) cap) xt) => ref6Mul_any pa p na ca (n * n) cap xa xt n n n u hd hd (ha.later hu) hr.q la hlt lna rfl sa st
  have M := hideP M
  have HE := hideP (show mk n n (mulI n (ofL n xa) (ofL n xt)) = mk n n (sqI n (ofL n xa)) from
    mk_congr fun i k hi hk => mulI_congr7 (fun _ _ => rfl) (fun j hj => by rw [hxt]; exact ofL_mk7 _ hj hk))
  clear ha la sa st hxt hlt lna
  go_enter Tryz.func9, Tryz.ntmps9
  go_wp2_with fail
  refine T.out.mono ?_
  rintro e w1 ⟨p, cap, rfl, hr, h1⟩
  go_wp2_with fail
  refine (M.out _ _ _ h1 hr).mono ?_
  rintro e w2 ⟨p2, cap2, rfl, hr2, h2⟩
  rw [HE.out] at hr2
  have HR := hideP hr2
  clear hr hr2 T M
  go_wp2
  go_ret
  exact ⟨p2, cap2, rfl, HR.out, h1.trans h2⟩
/-- sides: what it tells. -/
def SidesP (ns : List Int) (n : Int) (w : World) (e : Ending) (w' : World) : Prop := ∃ b, e = .returned (.bool b) ∧ (b = true → 1 ≤ n ∧ n ≤ 5 ∧ (ns.length : Int) = n * n ∧ Sml 100 ns) ∧ w' = w
theorem sidesP {ns : List Int} {n : Int} {w : World} (b : Bool) (h : b = true → 1 ≤ n ∧ n ≤ 5 ∧ (ns.length : Int) = n * n ∧ Sml 100 ns) : SidesP ns n w (.returned (.bool b)) w := ⟨b, rfl, h, rfl⟩
set_option maxHeartbeats 1000000 in
theorem sides_any (v : Value) (ns : List Int) (n : Int) (w : World) (h : Rq 1 cI w v ns) :
    Calls Tryz.prog 5 #[v, .int .i64 n] w (SidesP ns n w) := by
  have FW := hideP (few6_any v ns w h)
  obtain ⟨p, cap, rfl, _, _⟩ := h.cut
  obtain ⟨l, hl⟩ : ∃ l, l = ns.length := ⟨_, rfl⟩
  have HL := hideP hl
  rw [← hl] at FW ⊢
  clear h hl
  by_cases h1 : 1 ≤ n
  · by_cases h2 : n ≤ 5
    · have hnn : n * n ≤ 25 := by have := Int.mul_le_mul h2 h2 (by omega) (by omega : (0 : Int) ≤ 5); omega
      have hnn0 : 0 ≤ n * n := Int.mul_nonneg (by omega) (by omega)
      obtain ⟨nn, hn⟩ : ∃ nn, nn = n * n := ⟨_, rfl⟩
      rw [← hn] at hnn hnn0
      have hw : wrap64 (n * n) = nn := by rw [← hn]; unfold wrap64; omega
      have HN := hideP hn
      clear hn
      by_cases h3 : (l : Int) = nn
      · have h3' : ((l : Int) == nn) = true := by simp [h3]
        have H3 := hideP h3
        clear h3
        go_enter Tryz.func5, Tryz.ntmps5
        go_wp2_with fail
        refine FW.out.mono ?_
        rintro e w1 ⟨b, rfl, hb, rfl⟩
        have HBB := hideP hb
        clear hb
        go_wp2
        go_ret
        exact sidesP b fun e => ⟨h1, h2, by rw [← HL.out, ← HN.out]; exact H3.out, (HBB.out e).2⟩
      · have h3' : ((l : Int) == nn) = false := by simpa using h3
        clear h3
        go_enter Tryz.func5, Tryz.ntmps5
        go_wp2
        go_ret
        exact sidesP false fun e => by cases e
    · go_enter Tryz.func5, Tryz.ntmps5
      go_wp2
      go_ret
      exact sidesP false fun e => by cases e
  · go_enter Tryz.func5, Tryz.ntmps5
    go_wp2
    go_ret
    exact sidesP false fun e => by cases e
end Go.Proofs.YtbfdkahbnfpabaaGreat

/- Root, as the program fills it, number by number, is the document's, column by column; of a square of whole numbers (layer 7). -/
namespace Go.Proofs.YtbfdkahbnfpabaaGreat
open Go.RowKit
set_option linter.unusedSimpArgs false
set_option linter.unusedVariables false

/-- What Root tells of a place, of what it is so far, of any kind of numbers. -/
def rootVG {α : Type} (sub div : α → α → α) (root : α → α) (dot : List α → List α → α) (P g : Nat → Nat → α) (i k : Nat) : α :=
  if i = k then root (sub (P i k) (dot (rowM k g i) (rowM k g k))) else div (sub (P i k) (dot (rowM k g i) (rowM k g k))) (g k k)
theorem rowM_congr7 {α : Type} {k i : Nat} {f g : Nat → Nat → α} (h : ∀ j, j < k → f i j = g i j) : rowM k f i = rowM k g i :=
  List.map_congr_left fun j hj => h j (by simpa using hj)
theorem rootStep_congr {α : Type} {sub div : α → α → α} {root : α → α} {dot : List α → List α → α} {P G H : Nat → Nat → α} {k i j : Nat} (h1 : ∀ j, G i j = H i j) (h2 : ∀ j, G k j = H k j) :
    rootStep sub div root dot P G k i j = rootStep sub div root dot P H k i j := by
  unfold rootStep
  rw [rowM_congr7 (fun j _ => h1 j), rowM_congr7 (fun j _ => h2 j), h1 j]
theorem colT_root {α : Type} (sub div : α → α → α) (root : α → α) (dot : List α → List α → α) (P G : Nat → Nat → α) (k : Nat) :
    ∀ m a b, colT (rootVG sub div root dot P) k G m a b = if b = k ∧ k ≤ a ∧ a < k + m then rootStep sub div root dot P G k a b else G a b
  | 0, a, b => by rw [if_neg (by omega)]; rfl
  | m + 1, a, b => by
    have ih := colT_root sub div root dot P G k m
    show putM _ _ _ _ a b = _
    unfold putM
    by_cases h : a = k + m ∧ b = k
    · rw [if_pos h, if_pos (by omega)]
      obtain ⟨rfl, rfl⟩ := h
      have hr : ∀ i, rowM b (colT (rootVG sub div root dot P) b G m) i = rowM b G i := fun i => rowM_congr7 fun j hj => by rw [ih, if_neg (by omega)]
      have hbb := ih b b
      generalize colT (rootVG sub div root dot P) b G m = H at *
      unfold rootVG
      rw [hr, hr]
      unfold rootStep
      rw [if_pos (by omega : b = b ∧ b ≤ b + m)]
      by_cases hm : b + m = b
      · rw [if_pos hm, if_pos hm, hm]
      · rw [if_neg hm, if_neg hm]
        congr 1
        rw [if_pos (by omega)] at hbb
        rw [hbb]
        unfold rootStep
        rw [if_pos (by omega), if_pos rfl]
    · rw [if_neg h, ih]
      by_cases h2 : b = k ∧ k ≤ a ∧ a < k + m
      · rw [if_pos h2, if_pos (by omega)]
      · rw [if_neg h2, if_neg (by omega)]
theorem triT_root {α : Type} (sub div : α → α → α) (root : α → α) (dot : List α → List α → α) (z : α) (P : Nat → Nat → α) (n : Nat) :
    ∀ k, k ≤ n → ∀ i j, i < n → triT (rootVG sub div root dot P) z n k i j = rootTo sub div root dot z P k i j
  | 0, _, i, j, _ => rfl
  | k + 1, hk, i, j, hi => by
    have ih := triT_root sub div root dot z P n k (by omega)
    show colT _ _ _ (n - k) i j = rootStep sub div root dot P (rootTo sub div root dot z P k) k i j
    rw [colT_root]
    by_cases h : j = k ∧ k ≤ i ∧ i < k + (n - k)
    · rw [if_pos h]
      exact rootStep_congr (fun j => ih i j hi) (fun j => ih k j (by omega))
    · rw [if_neg h, ih i j hi]
      unfold rootStep
      rw [if_neg (by omega)]
theorem rootVF_G : rootVF = rootVG subR divR rootR dotF := rfl
theorem clrI_low (f : Nat → Nat → Int) : Low 0 (clrI f) := fun i k h => by unfold clrI; rw [if_neg (by omega)]
theorem clrI_sm {A : Int} {n : Nat} {f : Nat → Nat → Int} (hA : 0 ≤ A) (h : Sm2 A n n f) : Sm2 A n n (clrI f) := fun i k hi hk => by
  unfold clrI
  split
  · exact h i k hi hk
  · omega
/-- Of the square of a lower triangle of whole numbers with a diagonal above 0. -/
theorem root7_any (n : Nat) (p : Option Addr) (N cap : Nat) (s : Nat → Nat → Int) (w : World) (h : MxI w n n p N cap (sqI n s)) (hs : Sm2 100 n n s) (hl : Low 0 s) (hd : ∀ k, k < n → 0 < s k k) :
    Calls Tryz.prog 10 #[mV n n p N cap] w fun e w' => ∃ p' cap', e = .returned (.tuple #[mV n n p' N cap', .bool true]) ∧ MxI w' n n p' N cap' s ∧ Bl w w' := by
  refine (tRootF n p N cap _ w h).mono ?_
  rintro e w' ⟨p', cap', rfl, ⟨hm, _⟩, hb⟩
  refine ⟨p', cap', rfl, hm.congr fun i k hi hk => ?_, hb⟩
  rw [rootVF_G, triT_root _ _ _ _ _ _ _ _ (Nat.le_refl _) _ _ hi, show wholeF 0 = itF 0 from rfl]
  exact rootTo_all h.1.r2 hs hl hd hi hk
end Go.Proofs.YtbfdkahbnfpabaaGreat

/- Contract of tri's Is, of fractions (layer 7), of whatever function value zero is. -/
namespace Go.Proofs.YtbfdkahbnfpabaaGreat
open Go.RowKit Go.Shelf
set_option linter.unusedSimpArgs false
set_option linter.unusedVariables false
attribute [local go_sem] Oper.semAt_some
/-- The address of a row's others: of none that could be read it stays. -/
def dropP7 (p : Option Addr) (cap m s : Nat) : Option Addr := if cap = m then p else p.map fun a => a.add (m * s)
theorem Tryz.drop7F (p : Option Addr) (n cap m : Nat) (w : World) (h : m ≤ n) (hc : n ≤ cap) : (Instr.sliceAt 26 (.slice p n cap) (some (.int .i64 m)) none none).run Tryz.prog w = .ok (.slice (dropP7 p cap m 3) (n - m) (cap - m)) w := by
  have hu : Tryz.prog.underlying 26 = some (.slice (Tryz.prog.elem 26)) := by kernel_rfl
  obtain ⟨i0, hi, hz0, hz1, hz2⟩ := info_parts Tryz.info_F
  have he : Tryz.prog.elem 26 = 32 := by kernel_rfl
  rw [run_sliceAt_slice (h := hu), run_slice_l (ht := hu) (h0 := by omega) (h1 := by omega), he]
  by_cases hcm : cap = m
  · simp [sizeOf, typeInfo, hi, sliced, Result.andThen, hz1, dropP7, hcm]
  · have hcm' : ¬ cap - m = 0 := by omega
    simp [sizeOf, typeInfo, hi, sliced, Result.andThen, hz1, dropP7, hcm, hcm']
theorem Rw.drop7 {α : Type} {s : Nat} {c : α → List Value} {w : World} {p : Option Addr} {cap l : Nat} {xs : List α} (h : Rw s c w (.slice p l cap) xs) (hl : l = xs.length) (n : Nat) (hn : n ≤ xs.length) :
    Rw s c w (.slice (dropP7 p cap n s) (l - n) (cap - n)) (xs.drop n) := by
  subst hl
  rcases h with ⟨e, rfl⟩ | ⟨b, o, cap', e, hc, hb, hx⟩
  · cases e
    obtain rfl : n = 0 := by simpa using hn
    exact .inl ⟨rfl, rfl⟩
  · cases e
    unfold dropP7
    split
    · rename_i hcn
      have hd : xs.drop n = [] := List.drop_eq_nil_of_le (by omega)
      rw [hd]
      exact .inr ⟨b, o, cap - n, by simp; omega, by simp, hb, fun j x hj => by simp at hj⟩
    · have hadd : (⟨b, o, none⟩ : Addr).add (n * s) = ⟨b, o + n * s, none⟩ := by unfold Addr.add; split <;> simp_all
      refine .inr ⟨b, o + n * s, cap - n, ?_, by simp; omega, hb, fun j x hj k u hu => ?_⟩
      · simp [hadd]
      · rw [List.getElem?_drop] at hj
        have := hx (n + j) x hj k u hu
        rwa [show o + (n + j) * s + k = o + n * s + j * s + k by rw [Nat.add_mul]; omega] at this

/-- What is above the diagonal, told by b. -/
def aboveB (n : Nat) (f : Nat → Nat → Fr) (b : Fr → Bool) : Bool := (List.range n).all fun i => (List.range n).all fun k => decide (k ≤ i) || b (f i k)
theorem aboveB_iff {n : Nat} {f : Nat → Nat → Fr} {b : Fr → Bool} : aboveB n f b = true ↔ ∀ i k, i < k → k < n → b (f i k) = true := by
  unfold aboveB
  simp only [List.all_eq_true, List.mem_range, Bool.or_eq_true, decide_eq_true_eq]
  constructor
  · intro h i k hik hk
    exact (h i (by omega) k hk).resolve_left (by omega)
  · intro h i hi k hk
    by_cases hki : k ≤ i
    · exact .inl hki
    · exact .inr (h i k (by omega) hk)
theorem aboveB_no {n : Nat} {f : Nat → Nat → Fr} {b : Fr → Bool} {i k : Nat} (hik : i < k) (hk : k < n) (h : b (f i k) = false) : aboveB n f b = false := by
  cases e : aboveB n f b with
  | false => rfl
  | true =>
    have := aboveB_iff.1 e i k hik hk
    rw [h] at this
    cases this
theorem Tryz.notNilF (K : Nat) (w : World) : (binOp .eql 55 (.func (.func K) #[] #[]) .nilFunc).run Tryz.prog w = .ok (.bool false) w := by kernel_rfl
theorem isBox_own {X Y : World} {B B0 : Nat} {t : TypeId} {v : Value} {row : Option Nat} (h : Boxed X B t v) (hg : X.grownBy Y row) (h0 : B < B0) (hr : ∀ r, row = some r → B0 ≤ r ∧ ∃ o : Obj, X.heap[r]? = some o ∧ o.isCells = false) : Boxed Y B t v :=
  (hg.block B h.lt (fun e => by have := (hr B e.symm).1; omega)).trans h
set_option maxRecDepth 100000 in
set_option maxHeartbeats 4000000 in
theorem tIsF (n : Nat) (p : Option Addr) (N cap : Nat) (f : Nat → Nat → Fr) (K : Nat) (b : Fr → Bool) (w : World) (h : Mx 3 cellsF w n n p N cap f) (eg : ∀ (args : Array Value) (w : World), (callFunc K args).run Tryz.prog w = .ok (.enter K args) w)
    (hK : ∀ x u, Bl w u → Calls Tryz.prog K #[frV x] u fun e w' => e = .returned (.bool (b x)) ∧ Bl u w') :
    Calls Tryz.prog 23 #[mV n n p N cap, .func (.func K) #[] #[]] w fun e w' => e = .returned (.bool (aboveB n f b)) ∧ Bl w w' := by
  refine (callsIn_wide (n := 8)).1 ?_
  have hsq : sqB n n N = true := by unfold sqB; rw [h.fit]; simp
  have hd := h.1
  have hn16 := hd.r2
  have nn := Tryz.notNilF K
  have HXm := hideP h
  have HK := hideP hK
  clear h hK
  obtain ⟨V, hV⟩ : ∃ V, V = ((w.alloc (.cells #[.int .i64 n, .int .i64 n, .slice p N cap] 28)).alloc (.cells #[.func (.func K) #[] #[]] 55)).alloc (.cells #[.bool false] 4) := ⟨_, rfl⟩
  have hBV : Bl w V := by rw [hV]; exact (((Bl.refl _).alloc _).alloc _).alloc _
  have mx0 : MBox V w.heap.size n n p N cap := by rw [hV]; exact (MBox.new w _ _ _ _ _ _).later (((Bl.refl _).alloc _).alloc _)
  have bz : Boxed V (w.heap.size + 1) 55 (.func (.func K) #[] #[]) := by
    rw [hV]
    have := (Boxed.new (w.alloc (.cells #[.int .i64 n, .int .i64 n, .slice p N cap] 28)) 55 (.func (.func K) #[] #[])).alloc (.cells #[.bool false] 4)
    simpa using this
  have br : Boxed V (w.heap.size + 1 + 1) 4 (.bool false) := by
    rw [hV]
    have := Boxed.new ((w.alloc (.cells #[.int .i64 n, .int .i64 n, .slice p N cap] 28)).alloc (.cells #[.func (.func K) #[] #[]] 55)) 4 (.bool false)
    simpa using this
  have hsz : V.heap.size = w.heap.size + 1 + 1 + 1 := by rw [hV]; simp
  have HV := hideP hV
  clear hV
  refine callsIn_of_wp_marks Tryz.func23 rfl trivial ?_ rfl
  simp only [Tryz.ntmps23, List.size_toArray, List.length_cons, List.length_nil, Nat.reduceAdd, Nat.reduceSub, Array.replicate_succ, Array.replicate_zero, List.push_toArray, List.append_toArray, List.nil_append, List.cons_append]
  gi_wp2_with fail
  rw [← HV.out]
  obtain ⟨c0, c1, c2, f0, f1, f2, lt⟩ := id mx0
  gi_wp2_with fail
  refine ⟨trivial, ?_⟩
  refine (callsIn_wide.2 (tSquareF _ _ _ _ _ _)).mono ?_
  rintro e w5 ⟨rfl, h5⟩
  rw [hsq]
  clear c0 c1 c2 f0 f1 f2
  obtain ⟨c0, c1, c2, f0, f1, f2, lt5⟩ := id (mx0.later h5)
  gi_wp2_with fail
  refine ⟨trivial, ?_⟩
  refine (callsIn_wide.2 (mAllF _ _ _ _ _ f _ (HXm.out.later (hBV.trans h5)))).mono ?_
  rintro e w7 ⟨B2, p2, cap5, rfl, hK7, h7⟩
  have HK7 := hideP hK7
  clear hK7 c0 c1 c2 f0 f1 f2
  have bV7 : Bl V w7 := h5.trans h7
  have hs7 : w.heap.size + 1 + 1 + 1 ≤ w7.heap.size := by have := bV7.size; omega
  gi_wp2_with fail
  refine rangeV rfl (by omega) (gf := 68) (lb := #[.pointer (some ⟨B2, 0, none⟩)]) rfl trivial (enters_of Tryz.func68 (by kernel_rfl) rfl)
    (seqMF 7 B2 _ w7.heap.size n n p2 N cap5 f w7 (Nat.le_refl _) HK7.out) (fun x A B h => h.1) (fun h k => h.trans k) (span_b (Nat.le_refl _)) (fun _ => rfl)
    (fun (pre : List RowX) U => (∀ x ∈ pre, ∀ k, x.1 < k → k < n → b (f x.1 k) = true) ∧ (Below V.heap.size V U ∧ w7.heap.size ≤ U.heap.size))
    (fun c _ U => c = .ret ∧ aboveB n f b = false ∧ Boxed U (w.heap.size + 1 + 1) 4 (.bool false) ∧ Below w.heap.size w U)
    (fun _ X Y row hs hg hr => ⟨hs.1, (ownFrom_below (B := w7.heap.size) (β := Unit) (n₀ := V.heap.size) (by have := bV7.size; omega) bV7.size) () X Y row hs.2.1 hg hr, Nat.le_trans hs.2.2 hg.size⟩)
    (fun c _ X Y row hs hg hr => ⟨hs.1, hs.2.1, isBox_own hs.2.2.1 hg (by omega) hr, (ownFrom_below (B := w7.heap.size) (β := Unit) (n₀ := w.heap.size) (Nat.le_refl _) (by omega)) () X Y row hs.2.2.2 hg hr⟩)
    ⟨by simp, bV7, Nat.le_refl _⟩
    (fun a x a' U => Rw 3 cellsF U (rowV n x) (rowM n f x.1) ∧ ((x.1 < n ∧ n ≤ x.2.2) ∧ a' = { tmps := ((((a.tmps.setIfInBounds 14 (.int .i64 x.1)).setIfInBounds 15 (rowV n x)).setIfInBounds 5 (.int .i64 x.1)).setIfInBounds 6 (rowV n x)), defers := [] }))
    (fun x a' _ X Y row hs hg hr => ⟨rw_own hs.1 hg (fun r e => (hr r e).2), hs.2⟩)
    ?assign ?body ?done ?stop
  case assign =>
    rintro l pre x W0 U K' _ ⟨hbU, hxR, hrow, hfr, hcc⟩ hI hK'
    have HK2 := hideP hK'
    have HI := hideP hI
    have HRO := hideP hrow
    clear hK' hI hrow
    gi_wp2
    refine HK2.out _ _ (KeepsFrom.refl _ _) (Span.refl _ _ _) HI.out ⟨HRO.out, ⟨hxR, hcc⟩, ?_⟩
    simp only [List.setIfInBounds_toArray, List.set_cons_zero, List.set_cons_succ]
  case body =>
    rintro l pre x a' U hl' ⟨r, hr'⟩ ⟨hpre, hbU, hsU⟩ ⟨hrx, ⟨hxn, hxc⟩, rfl⟩ hlt
    simp only [List.setIfInBounds_toArray, List.set_cons_zero, List.set_cons_succ]
    obtain ⟨x1, xp, xc⟩ := x
    dsimp only [rowV] at *
    have HPRE := hideP hpre
    have bz1 := boxed_bl bz (show Bl V U from hbU)
    have br1 := boxed_bl br (show Bl V U from hbU)
    have hdr := hrx.drop7 (by rw [rowM_len]) (x1 + 1) (by rw [rowM_len]; omega)
    have hdp := fun u => Tryz.drop7F xp n xc (x1 + 1) u (by omega) hxc
    rw [show ((x1 + 1 : Nat) : Int) = (x1 : Int) + 1 by omega] at hdp
    generalize dropP7 xp xc (x1 + 1) 3 = dp at *
    obtain ⟨m, hm⟩ : ∃ m, m = n - (x1 + 1) := ⟨_, rfl⟩
    obtain ⟨c, hc⟩ : ∃ c, c = xc - (x1 + 1) := ⟨_, rfl⟩
    rw [← hm, ← hc] at hdr hdp
    have hm16 : m ≤ 16 := by omega
    have HDR := hideP hdr
    have HM := hideP hm
    clear hrx hdr hpre hc hm
    gi_wp2_with fail
    gi_loopw [21] (fun v wr => ∃ j : Nat, v = .int .i64 j ∧ j ≤ m ∧ Bl U wr ∧ ∀ k, k < j → b (f x1 (x1 + 1 + k)) = true) (fun v _ => m - (intOf v).toNat)
    case atStart => exact ⟨0, rfl, Nat.zero_le _, Bl.refl _, fun k hk => by omega⟩
    case round =>
      obtain ⟨j, rfl, hj, bl, hbj⟩ := hrel
      have HBJ := hideP hbj
      clear hbj
      by_cases hlt2 : j < m
      · have hy : (List.drop (x1 + 1) (rowM n f x1))[j]? = some (f x1 (x1 + 1 + j)) := by
          rw [List.getElem?_drop]
          exact rowM_get f x1 (by have := HM.out; omega)
        obtain ⟨g, o, rfl, CX⟩ : ∃ g o, dp = some ⟨g, o, none⟩ ∧ ∀ k u, (cellsF (f x1 (x1 + 1 + j)))[k]? = some u → wr.cell? ⟨g, o + j * 3 + k, none⟩ = some u := by
          rcases HDR.out with ⟨e, _⟩ | ⟨g, o, cc, e, _, hg, hx⟩
          · simp only [Value.slice.injEq] at e
            omega
          · simp only [Value.slice.injEq] at e
            exact ⟨g, o, e.1, fun k u hu => (bl_cell bl _ _ hg).trans (hx j _ hy k u hu)⟩
        obtain ⟨y, hyy⟩ : ∃ y, y = f x1 (x1 + 1 + j) := ⟨_, rfl⟩
        rw [← hyy] at CX
        have x0 : wr.cell? ⟨g, o + j * 3, none⟩ = some (.int .i64 y.n) := CX 0 _ rfl
        have x1' : wr.cell? ⟨g, o + j * 3 + 1, none⟩ = some (.int .i64 y.d) := CX 1 _ rfl
        have x2 : wr.cell? ⟨g, o + j * 3 + 2, none⟩ = some (.bool y.bad) := CX 2 _ rfl
        have HY := hideP hyy
        have bz2 := boxed_bl bz1 bl
        have zc := bz2.cell
        clear hy CX hyy
        obtain ⟨X, hX⟩ : ∃ X, X = wr.alloc (.cells #[.int .i64 y.n, .int .i64 y.d, .bool y.bad] 32) := ⟨_, rfl⟩
        have bX : Bl wr X := by rw [hX]; exact (Bl.refl _).alloc _
        obtain ⟨d0, d1, d2, g0, g1, g2, ltX⟩ : FBox X wr.heap.size y := by rw [hX]; exact FBox.new wr y _
        have zc2 := (boxed_bl bz2 bX).cell
        rw [hX] at zc2
        have HX := hideP hX
        clear hX d0 d1 d2 g0 g1 g2 zc
        gi_wp2_with fail
        rw [← HX.out]
        refine ⟨trivial, ?_⟩
        refine CallsIn.mono (F := Fence.wide.inRound l) (show CallsIn (Fence.wide.inRound l) 5 Tryz.prog K #[frV y] X _ from callsIn_wide.2 (HK.out y X (hBV.trans ((show Bl V U from hbU).trans (bl.trans bX))))) ?_
        rintro e w9 ⟨rfl, h9⟩
        have bU9 : Bl U w9 := bl.trans (bX.trans h9)
        have br9 := boxed_bl br1 bU9
        have bc := br9.cell
        have fc := br9.frozen
        have bV9 : Bl V w9 := (show Bl V U from hbU).trans bU9
        cases hby : b y with
        | true =>
          gi_wp2
          go_roundw
          case rel =>
            refine ⟨j + 1, by simp, hlt2, bU9, fun k hk => ?_⟩
            by_cases hkj : k < j
            · exact HBJ.out k hkj
            · obtain rfl : k = j := by omega
              rw [← HY.out]; exact hby
          case measure => simp [intOf]; omega
        | false =>
          have hab : aboveB n f b = false := aboveB_no (i := x1) (k := x1 + 1 + j) (by omega) (by have := HM.out; omega) (by rw [← HY.out]; exact hby)
          gi_wp2
          refine ⟨(bU9.keeps _).trans ((KeepsOthers.setCell _ _ _).from _), rfl, hab, ?_, ?_⟩
          · have := br9.set (.bool false); simpa using this
          · exact (hBV.trans bV9).setCell (p := ⟨w.heap.size + 1 + 1, 0, none⟩) (by simp; omega) _
      · have HBJ2 := HBJ.out
        obtain rfl : j = m := by omega
        gi_wp2
        refine ⟨bl.keeps _, bl.span hsU, ?_, hbU.trans (bl.mono (show V.heap.size ≤ U.heap.size by have := bV7.size; omega)), by have := bl.size; omega⟩
        intro x hx k hk1 hk2
        rcases List.mem_append.1 hx with h | h
        · exact HPRE.out x h k hk1 hk2
        · obtain rfl : x = (x1, xp, xc) := by simpa using h
          have := HBJ2 (k - (x1 + 1)) (by have := HM.out; dsimp only at hk1; omega)
          dsimp only at hk1 ⊢
          rwa [show x1 + 1 + (k - (x1 + 1)) = k by omega] at this
  case done =>
    rintro D zs U hD hS ⟨hall, hbU, hsU⟩ hKD
    have hab : aboveB n f b = true := aboveB_iff.2 fun i k hik hk => by
      have : i ∈ zs.map (·.1) := by rw [hS]; simp; omega
      obtain ⟨x, hx, rfl⟩ := List.mem_map.1 this
      exact hall x hx k hik hk
    have br7 := boxed_bl br (show Bl V U from hbU)
    have bc := br7.cell
    have fc := br7.frozen
    have HKD := hideP hKD
    have HDD := hideP hD
    clear hKD hD
    gi_wp2
    refine ⟨by simp, .inl ⟨_, _, rfl, run_takeDeferred ((KeepsOthers.setCell U ⟨w.heap.size + 1 + 1, 0, none⟩ (.bool true)).same D _ HKD.out rfl), ?_⟩⟩
    have hc6 := cell_kept (World.cell?_setCell_same' U ⟨w.heap.size + 1 + 1, 0, none⟩ (.bool true) (by rw [bc]; rfl)) (grownBy_putObj' _ D (.deferred none)) (fun r e => by cases e; exact ⟨_, (KeepsOthers.setCell U ⟨w.heap.size + 1 + 1, 0, none⟩ (.bool true)).same D _ HKD.out rfl, rfl⟩)
    refine ⟨.bool true, ?_, by rw [hab], ?_⟩
    · simp [results, Tryz.f23, go_sem, hc6]
    · have t1 : Below w.heap.size w U := hBV.trans hbU
      have t2 := t1.setCell (p := ⟨w.heap.size + 1 + 1, 0, none⟩) (by simp; omega) (.bool true)
      exact t2.trans (belowK_b (w := w) (Nat.le_refl _) _ D _ _ (by have := HDD.out; omega) ((KeepsOthers.setCell U ⟨w.heap.size + 1 + 1, 0, none⟩ (.bool true)).same D _ HKD.out rfl) rfl rfl)
  case stop =>
    rintro D c pre U hD hpre ⟨rfl, hab, hbx, hbU⟩ hKD
    have bc := hbx.cell
    gi_wp2
    refine ⟨by simp, .inl ⟨_, _, rfl, run_takeDeferred hKD, ?_⟩⟩
    have hc6 := cell_kept hbx.cell (grownBy_putObj' _ D (.deferred none)) (fun r e => by cases e; exact ⟨_, hKD, rfl⟩)
    refine ⟨.bool false, ?_, by rw [hab], ?_⟩
    · simp [results, Tryz.f23, go_sem, hc6]
    · exact hbU.trans (belowK_b (w := w) (Nat.le_refl _) _ D _ _ (by omega) hKD rfl rfl)
end Go.Proofs.YtbfdkahbnfpabaaGreat

/- A region that draws its order and ends in an append (or what else turns a row) and a store of what it told: by one fact an operation, whatever their order. -/
namespace Go.Proofs.YtbfdkahbnfpabaaGreat
open Go.RowKit
set_option linter.unusedSimpArgs false
set_option linter.unusedVariables false

/-- What must hold of the operations, by reckoning: the one at s turns the row, the one behind it stores. -/
def wellA (ops : Array Oper) (ds : List (Option Nat)) (s : Nat) : Bool :=
  lowB2 ops && onceB ds && (ds.length == ops.size) && (ops.size == s + 2) && (match ops[s + 1]? with | some o => o.dst.isNone && o.after.any (fun e => (e.on == s) && Region.binds .any e) | none => false) && (List.range ops.size).all fun j => match ops[j]? with
    | none => true
    | some o => o.guard.isNone && (ds[j]? == some o.dst) && (if j == s + 1 then true else o.dst.isSome) && (if j < s then (List.range (s + 1)).any (fun i => decide (j < i) && match ops[i]? with
      | some o' => o'.after.any fun e => (e.on == j) && Region.binds .any e
      | none => false) else true)
structure WellA (ops : Array Oper) (ds : List (Option Nat)) (s : Nat) : Prop where
  low : lowB2 ops = true
  once : onceB ds = true
  len : ds.length = ops.size
  size : ops.size = s + 2
  guard : ∀ (j : Nat) (o : Oper), ops[j]? = some o → o.guard = none
  dst : ∀ (j : Nat) (o : Oper), ops[j]? = some o → ds[j]? = some o.dst
  got : ∀ (j : Nat) (o : Oper), ops[j]? = some o → j ≠ s + 1 → ∃ t, o.dst = some t
  last : ∀ (o : Oper), ops[s + 1]? = some o → o.dst = none ∧ ∃ e ∈ o.after, e.on = s ∧ Region.binds .any e = true
  used : ∀ j, j < s → ∃ (i : Nat) (o' : Oper) (e : Edge), j < i ∧ i ≤ s ∧ ops[i]? = some o' ∧ e ∈ o'.after ∧ e.on = j ∧ Region.binds .any e = true
theorem wellA_well {ops : Array Oper} {ds : List (Option Nat)} {s : Nat} (h : wellA ops ds s = true) : WellA ops ds s := by
  simp only [wellA, Bool.and_eq_true] at h
  obtain ⟨⟨⟨⟨⟨h1, h2⟩, h3⟩, h4⟩, h5⟩, h6⟩ := h
  have hsz : ops.size = s + 2 := by simpa using h4
  have key := fun (j : Nat) (o : Oper) (ho : ops[j]? = some o) => by
    have := List.all_eq_true.1 h6 j (by simpa using (Array.getElem?_eq_some_iff.1 ho).1)
    rw [ho] at this
    simp only [Bool.and_eq_true] at this
    exact this
  refine ⟨h1, h2, by simpa using h3, hsz, fun j o ho => by simpa using (key j o ho).1.1.1, fun j o ho => by simpa using (key j o ho).1.1.2, fun j o ho hj => ?_, fun o ho => ?_, fun j hj => ?_⟩
  · have := (key j o ho).1.2
    rw [if_neg (by simpa using hj)] at this
    exact Option.isSome_iff_exists.1 this
  · rw [ho] at h5
    simp only [Bool.and_eq_true, Array.any_eq_true'] at h5
    obtain ⟨h7, e, he, hb⟩ := h5
    simp only [Bool.and_eq_true, beq_iff_eq] at hb
    exact ⟨by simpa using h7, e, he, hb.1, hb.2⟩
  · have hjl : j < ops.size := by omega
    have := (key j _ (Array.getElem?_eq_getElem hjl)).2
    rw [if_pos hj] at this
    simp only [List.any_eq_true, Bool.and_eq_true, decide_eq_true_eq] at this
    obtain ⟨i, hi, hji, hm⟩ := this
    have hi' : i < s + 1 := by simpa using hi
    have his : i < ops.size := by omega
    rw [Array.getElem?_eq_getElem his] at hm
    simp only [Array.any_eq_true'] at hm
    obtain ⟨e, he, hb⟩ := hm
    simp only [Bool.and_eq_true, beq_iff_eq] at hb
    exact ⟨i, _, e, hji, by omega, Array.getElem?_eq_getElem his, he, hb.1, hb.2⟩
/-- Between two of a region's operations. -/
structure RA (W : World) (a : Act) (ops : Array Oper) (ds : List (Option Nat)) (s : Nat) (facts : Nat → Value → World → Prop) (PA PB : (Nat → Value) → Value → World → World → Prop) (L : Nat → Bool) (act : Act) (u : World) : Prop where
  size : act.tmps.size = a.tmps.size
  defers : act.defers = a.defers
  frame : ∀ t, (∀ j, L j = true → ds[j]? ≠ some (some t)) → act.eval (.tmp t) = a.eval (.tmp t)
  shut : ∀ (j : Nat) (o : Oper), ops[j]? = some o → L j = true → ∀ e ∈ o.after, Region.binds .any e = true → L e.on = true
  have0 : L s = false → Bl W u ∧ ∀ (j t : Nat), j < s → ds[j]? = some (some t) → L j = true → facts j (act.eval (.tmp t)) u
  have1 : L s = true → ∃ u0 vs v, Bl W u0 ∧ (∀ (j t : Nat), j < s → ds[j]? = some (some t) → act.eval (.tmp t) = vs j ∧ facts j (vs j) u0) ∧ (∀ t, ds[s]? = some (some t) → act.eval (.tmp t) = v) ∧ (if L (s + 1) then PB vs v u0 u else PA vs v u0 u)
theorem region_qa {F : Fence} {n : Nat} {P : Program} {ops : Array Oper} {Q : Exit → Act → World → Prop} {a : Act} {W : World} {id : Nat} (hm : P.follows .mixedOrders = true) (ds : List (Option Nat)) (s : Nat) (hw : wellA ops ds s = true)
    (hsz0 : ds.all (fun d => match d with | some t => Nat.blt t a.tmps.size | none => true) = true) (facts : Nat → Value → World → Prop) (mono : ∀ j v u u', Bl u u' → facts j v u → facts j v u') (PA PB : (Nat → Value) → Value → World → World → Prop)
    (step : ∀ (j : Nat) (o : Oper) (t : Nat) (act : Act) (u : World), ops[j]? = some o → o.dst = some t → j < s → act.tmps.size = a.tmps.size → Bl W u → (∀ t, some t ∉ ds → act.eval (.tmp t) = a.eval (.tmp t)) → (∀ e ∈ o.after, Region.binds .any e = true → ∀ t, ds[e.on]? = some (some t) → facts e.on (act.eval (.tmp t)) u) →
      Oper.wpIn F n P o act u (fun act' u' => ∃ v, act' = act.put (some t) v ∧ facts j v u' ∧ Bl u u') Q)
    (app : ∀ (o : Oper) (t : Nat) (act : Act) (u : World) (vs : Nat → Value), ops[s]? = some o → o.dst = some t → act.tmps.size = a.tmps.size → Bl W u → (∀ t, some t ∉ ds → act.eval (.tmp t) = a.eval (.tmp t)) → (∀ (j t : Nat), j < s → ds[j]? = some (some t) → act.eval (.tmp t) = vs j ∧ facts j (vs j) u) →
      Oper.wpIn F n P o act u (fun act' u' => ∃ v, act' = act.put (some t) v ∧ PA vs v u u') Q)
    (store : ∀ (o : Oper) (act : Act) (u0 u : World) (vs : Nat → Value) (v : Value), ops[s + 1]? = some o → act.tmps.size = a.tmps.size → Bl W u0 → (∀ t, some t ∉ ds → act.eval (.tmp t) = a.eval (.tmp t)) → (∀ (j t : Nat), j < s → ds[j]? = some (some t) → act.eval (.tmp t) = vs j ∧ facts j (vs j) u0) → (∀ t, ds[s]? = some (some t) → act.eval (.tmp t) = v) → PA vs v u0 u →
      Oper.wpIn F n P o act u (fun act' u' => act' = act ∧ PB vs v u0 u') Q)
    (fin : ∀ (vs : Nat → Value) (v : Value) (u0 u : World), Bl W u0 → (∀ (j t : Nat), j < s → ds[j]? = some (some t) → facts j (vs j) u0) → PB vs v u0 u → Q .normal (putL ds (fun j => if j < s then vs j else v) 0 a) u) :
    (Code.region id ops true).wpIn F n P Q a W := by
  have H := wellA_well hw
  have hsz : ∀ t, some t ∈ ds → t < a.tmps.size := fun t ht => by have := List.all_eq_true.1 hsz0 _ ht; rw [Nat.blt_eq] at this; exact this
  have hlt : ∀ (j t : Nat), ds[j]? = some (some t) → j < ops.size := fun j t h => by have := (List.getElem?_eq_some_iff.1 h).1; rw [H.len] at this; exact this
  have hne : ∀ (i j t t' : Nat), ds[i]? = some (some t) → ds[j]? = some (some t') → i ≠ j → t ≠ t' := by
    have : ∀ (ds : List (Option Nat)), onceB ds = true → ∀ (i j t t' : Nat), ds[i]? = some (some t) → ds[j]? = some (some t') → i < j → t ≠ t' := by
      intro ds
      induction ds with
      | nil => intro _ i j t t' h; simp at h
      | cons d ds ih =>
        intro ho i j t t' h1 h2 hij
        simp only [onceB, Bool.and_eq_true] at ho
        cases j with
        | zero => omega
        | succ j =>
          cases i with
          | zero =>
            simp at h1 h2
            subst h1
            have := ho.1
            simp at this
            exact fun e => this _ (List.mem_of_getElem? h2) (by rw [e])
          | succ i => exact ih ho.2 i j t t' (by simpa using h1) (by simpa using h2) (by omega)
    intro i j t t' h1 h2 hij
    rcases Nat.lt_or_gt_of_ne hij with h | h
    · exact this ds H.once i j t t' h1 h2 h
    · exact (this ds H.once j i t' t h2 h1 h).symm
  have lastno : ∀ t : Nat, ds[s + 1]? ≠ some (some t) := fun t h => by
    have hl := hlt _ t h
    rw [H.dst _ _ (Array.getElem?_eq_getElem hl), (H.last _ (Array.getElem?_eq_getElem hl)).1] at h
    cases h
  refine region_facts2 hm (lowB2_low H.low) (RA W a ops ds s facts PA PB) ?_ ?_ ?_
  · exact ⟨rfl, rfl, fun _ _ => rfl, (by intro _ _ _ h; cases h), fun _ => ⟨(Bl.refl _).drew, (by intro _ _ _ _ h; cases h)⟩, (by intro h; cases h)⟩
  · intro L act u i o hI ho hLi hall
    have hil : i < ops.size := (Array.getElem?_eq_some_iff.1 ho).1
    refine step_wp ho (H.guard i o ho) ?_
    have hfr : ∀ t, some t ∉ ds → act.eval (.tmp t) = a.eval (.tmp t) := fun t ht => hI.frame t (fun j _ e => ht (List.mem_of_getElem? e))
    have shut' : ∀ (j : Nat) (o' : Oper), ops[j]? = some o' → (L j || (j == i)) = true → ∀ e ∈ o'.after, Region.binds .any e = true → (L e.on || (e.on == i)) = true := fun j o' ho' hj e he hb => by
      rw [Bool.or_eq_true] at hj
      rcases hj with hj | hj
      · rw [hI.shut j o' ho' hj e he hb]; rfl
      · obtain rfl : j = i := by simpa using hj
        rw [ho] at ho'
        cases ho'
        rw [hall e he hb]; rfl
    have below : ∀ (o : Oper), ops[s]? = some o → (∀ e ∈ o.after, Region.binds .any e = true → L e.on = true) → ∀ j, j < s → L j = true := by
      intro o ho hall j hj
      have done : ∀ m, ∀ j, s - j ≤ m → j < s → L j = true := by
        intro m
        induction m with
        | zero => intro j h1 h2; omega
        | succ m ih =>
          intro j h1 h2
          obtain ⟨k, o', e, hjk, hki, ho', he, hej, hbe⟩ := H.used j h2
          subst hej
          by_cases hk : k = s
          · subst hk
            rw [ho] at ho'
            cases ho'
            exact hall e he hbe
          · exact hI.shut k o' ho' (ih k (by omega) (by omega)) e he hbe
      exact done _ j (Nat.le_refl _) hj
    by_cases hi1 : i = s + 1
    · subst hi1
      obtain ⟨hd, e, he, hes, hbe⟩ := H.last o ho
      have hLs : L s = true := by have := hall e he hbe; rwa [hes] at this
      obtain ⟨u0, vs, v, hb, hf, hv, hP⟩ := hI.have1 hLs
      rw [hLi] at hP
      refine Oper.wpIn_mono ?_ (store o act u0 u vs v ho hI.size hb hfr hf hv hP)
      rintro act' u' ⟨rfl, hP'⟩
      refine ⟨hI.size, hI.defers, fun t ht => hI.frame t (fun j hj => ht j (by rw [hj]; rfl)), shut', fun h => by simp [hLs] at h, fun _ => ⟨u0, vs, v, hb, hf, hv, by simpa using hP'⟩⟩
    · obtain ⟨t, hdt⟩ := H.got i o ho hi1
      have hdi : ds[i]? = some (some t) := by rw [H.dst i o ho, hdt]
      have htl : t < act.tmps.size := by rw [hI.size]; exact hsz t (List.mem_of_getElem? hdi)
      have oth : ∀ (v : Value) (j t' : Nat), ds[j]? = some (some t') → j ≠ i → (act.put (some t) v).eval (.tmp t') = act.eval (.tmp t') := fun v j t' h hj => eval_put_other (hne j i t' t h hdi hj)
      have frame' : ∀ v, ∀ t', (∀ j, (L j || (j == i)) = true → ds[j]? ≠ some (some t')) → (act.put (some t) v).eval (.tmp t') = a.eval (.tmp t') := fun v t' h => by
        have h1 : t' ≠ t := fun e => h i (by simp) (by rw [e]; exact hdi)
        rw [eval_put_other h1]
        exact hI.frame t' (fun j hj => h j (by rw [hj]; rfl))
      have lastL : L s = false → L (s + 1) = false := fun h => by
        cases hh : L (s + 1) with
        | false => rfl
        | true =>
          have hl : s + 1 < ops.size := by rw [H.size]; omega
          obtain ⟨_, e, he, hes, hbe⟩ := H.last _ (Array.getElem?_eq_getElem hl)
          have := hI.shut _ _ (Array.getElem?_eq_getElem hl) hh e he hbe
          rw [hes, h] at this
          cases this
      by_cases his : i = s
      · subst his
        obtain ⟨hb, hf⟩ := hI.have0 hLi
        have vals : ∀ (j t : Nat), ds[j]? = some (some t) → act.eval (.tmp t) = (fun j => act.eval (.tmp ((ds[j]?.getD none).getD 0))) j := fun j t h => by simp [h]
        have hL1 := lastL hLi
        refine Oper.wpIn_mono ?_ (app o t act u (fun j => act.eval (.tmp ((ds[j]?.getD none).getD 0))) ho hdt hI.size hb hfr (fun j t' hj h => ⟨vals j t' h, by have := hf j t' hj h (below o ho hall j hj); rw [vals j t' h] at this; exact this⟩))
        rintro act' u' ⟨v, rfl, hP⟩
        refine ⟨by rw [size_put]; exact hI.size, by rw [defers_put]; exact hI.defers, frame' v, shut', fun h => by simp at h, fun _ => ⟨u, (fun j => act.eval (.tmp ((ds[j]?.getD none).getD 0))), v, hb, fun j t' hj h => ⟨?_, ?_⟩, fun t' h => ?_, ?_⟩⟩
        · rw [oth v j t' h (by omega)]; exact vals j t' h
        · have := hf j t' hj h (below o ho hall j hj); rw [vals j t' h] at this; exact this
        · rw [hdi] at h
          cases h
          exact eval_put_same htl
        · rw [if_neg (by simp [hL1])]
          exact hP
      · have hilt : i < s := by have := H.size; omega
        have hLs0 : L s = false := by
          cases hh : L s with
          | false => rfl
          | true =>
            have hl : s < ops.size := by rw [H.size]; omega
            have := below _ (Array.getElem?_eq_getElem hl) (fun e he hb => hI.shut s _ (Array.getElem?_eq_getElem hl) hh e he hb) i hilt
            rw [this] at hLi
            cases hLi
        obtain ⟨hb, hf⟩ := hI.have0 hLs0
        have hon : ∀ e ∈ o.after, Region.binds .any e = true → e.on < s := fun e he hbe => by have := lowB2_low H.low i o ho e he hbe; omega
        refine Oper.wpIn_mono ?_ (step i o t act u ho hdt hilt hI.size hb hfr (fun e he hbe t' ht' => hf e.on t' (hon e he hbe) ht' (hall e he hbe)))
        rintro act' u' ⟨v, rfl, hv, hb'⟩
        have hsi : (L s || (s == i)) = false := by
          have : (s == i) = false := by simpa using fun e => his e.symm
          rw [this, hLs0]; rfl
        refine ⟨by rw [size_put]; exact hI.size, by rw [defers_put]; exact hI.defers, frame' v, shut', fun _ => ⟨hb.trans hb', fun j t' hj' h hj => ?_⟩, fun h => by rw [hsi] at h; cases h⟩
        by_cases hji : j = i
        · subst hji
          rw [hdi] at h
          cases h
          rw [eval_put_same htl]
          exact hv
        · rw [oth v j t' h hji]
          exact mono _ _ _ _ hb' (hf j t' hj' h (by rw [Bool.or_eq_true] at hj; exact hj.resolve_right (by simpa using hji)))
  · intro L act u hI hall
    obtain ⟨u0, vs, v, hb, hf, hv, hP⟩ := hI.have1 (hall s (by rw [H.size]; omega))
    rw [if_pos (hall (s + 1) (by rw [H.size]; omega))] at hP
    have ev : ∀ (j t : Nat), ds[j]? = some (some t) → act.eval (.tmp t) = if j < s then vs j else v := fun j t h => by
      by_cases hj : j < s
      · rw [if_pos hj]; exact (hf j t hj h).1
      · rw [if_neg hj]
        have := hlt j t h
        rw [H.size] at this
        rcases (by omega : j = s ∨ j = s + 1) with rfl | rfl
        · exact hv t h
        · exact absurd h (lastno t)
    have e : act = putL ds (fun j => if j < s then vs j else v) 0 a := by
      refine act_ext (by rw [putL_size]; exact hI.size) (by rw [putL_defers]; exact hI.defers) fun t ht => ?_
      by_cases hm : some t ∈ ds
      · obtain ⟨j, hj⟩ := List.getElem?_of_mem hm
        rw [ev j t hj, putL_at ds _ t j 0 a H.once hj (hsz t hm), Nat.zero_add]
      · rw [putL_other ds _ t 0 a (fun d hd e => hm (e ▸ hd))]
        exact hI.frame t (fun j _ e => hm (List.mem_of_getElem? e))
    rw [e]
    exact fin vs v u0 u hb (fun j t hj h => (hf j t hj h).2) hP
end Go.Proofs.YtbfdkahbnfpabaaGreat

/- Contract of tri's Diagonal, of fractions (layer 7). Written by genTr.py. -/
namespace Go.Proofs.YtbfdkahbnfpabaaGreat
open Go.RowKit Go.Shelf
set_option linter.unusedSimpArgs false
set_option linter.unusedVariables false
attribute [local go_sem] Oper.semAt_some

set_option maxRecDepth 100000 in
set_option maxHeartbeats 4000000 in
theorem tDiagF (n : Nat) (p : Option Addr) (N cap : Nat) (f : Nat → Nat → Fr) (w : World) (h : Mx 3 cellsF w n n p N cap f) :
    Calls Tryz.prog 25 #[mV n n p N cap] w fun e w' => ∃ p' cap', e = .returned (.slice p' n cap') ∧ Rw 3 cellsF w' (.slice p' n cap') ((List.range n).map fun i => f i i) ∧ Bl w w' := by
  obtain ⟨i0, hi, hz0, hz1, hz2⟩ := info_parts Tryz.info_F
  have fm : Tryz.prog.follows .mixedOrders = true := by kernel_rfl
  refine (callsIn_wide (n := 8)).1 ?_
  have hsq : sqB n n N = true := by unfold sqB; rw [h.fit]; simp
  have hd := h.1
  have hn16 := hd.r2
  have HXm := hideP h
  clear h
  obtain ⟨W, hW⟩ : ∃ W, W = w.alloc (.cells #[.int .i64 n, .int .i64 n, .slice p N cap] 28) := ⟨_, rfl⟩
  have b0 : Bl w W := by rw [hW]; exact (Bl.refl _).alloc _
  have mx0 : MBox W w.heap.size n n p N cap := by rw [hW]; exact MBox.new w _ _ _ _ _ _
  have HW := hideP hW
  clear hW
  refine callsIn_of_wp_marks Tryz.func25 rfl trivial ?_ rfl
  simp only [Tryz.ntmps25, List.size_toArray, List.length_cons, List.length_nil, Nat.reduceAdd, Nat.reduceSub, Array.replicate_succ, Array.replicate_zero, List.push_toArray, List.append_toArray, List.nil_append, List.cons_append]
  gi_wp2_with fail
  rw [← HW.out]
  refine ⟨trivial, ?_⟩
  refine (callsIn_wide.2 (tSquareF _ _ _ _ _ _)).mono ?_
  rintro e w5 ⟨rfl, h5⟩
  rw [hsq]
  have mx5 := mx0.later h5
  have bw5 : Bl w w5 := b0.trans h5
  obtain ⟨c0, c1, c2, f0, f1, f2, lt⟩ := id mx5
  gi_wp2_with (gi_at_make; refine wpListIn_make_own _ rfl _ _ 26 rfl w5.heap.size 32 i0 (.agg #[.int .i64 0, .int .i64 0, .bool false]) 3 Tryz.underlying26 hi hz0 hz1 .i64 .i64 _ n rfl rfl (by simp) (by rw [hz2]; omega) (by unfold maxLen; omega) (by simp) ?_; intro w6 hown0 hgrow0; have mx6 := mbox_block mx5 (hgrow0.block _ mx5.lt nofun) hgrow0.size; clear c0 c1 c2 f0 f1 f2 lt; obtain ⟨c0, c1, c2, f0, f1, f2, lt⟩ := mx6)
  have h56 : Bl w5 w6 := ⟨hgrow0.os, hgrow0.tape, hgrow0.output, hgrow0.size, fun k hk => hgrow0.block k hk nofun⟩
  have hs6 : w5.heap.size ≤ w6.heap.size := hgrow0.size
  obtain ⟨w6b, hw6b⟩ : ∃ w6b, w6b = w6.alloc (.cells #[.slice (some ⟨w5.heap.size, 0, none⟩) 0 n] 26) := ⟨_, rfl⟩
  have h6b : Bl w6 w6b := by rw [hw6b]; exact (Bl.refl _).alloc _
  have hs6b : w6b.heap.size = w6.heap.size + 1 := by rw [hw6b]; simp
  have bl6 : Boxed w6b w6.heap.size 26 (.slice (some ⟨w5.heap.size, 0, none⟩) 0 n) := by rw [hw6b]; exact Boxed.new w6 _ _
  have hown6 : w6b.ownsRow w5.heap.size 32 3 (.slice (some ⟨w5.heap.size, 0, none⟩) 0 n) 0 [] := own_blF hown0 h6b
  have hlt5 : w5.heap.size < w6b.heap.size := by have := (hown6.lt w5.heap.size rfl).2; exact this
  have HW6 := hideP hw6b
  clear hw6b hown0 hgrow0 c0 c1 c2 f0 f1 f2 lt
  rw [← HW6.out]
  refine ⟨trivial, ?_⟩
  refine (callsIn_wide.2 (mAllF _ _ _ _ _ f _ (HXm.out.later ((bw5.trans h56).trans h6b)))).mono ?_
  rintro e w7 ⟨B2, p2, cap5, rfl, hK7, h7⟩
  have HK7 := hideP hK7
  clear hK7
  have hs7 : w6.heap.size + 1 ≤ w7.heap.size := by have := h7.size; omega
  have b57 : Below w5.heap.size w5 w7 := (h56.trans h6b).trans h7
  have bl7 := boxed_bl bl6 h7
  have own7 := own_blF hown6 h7
  clear bl6 hown6
  gi_wp2_with fail
  refine rangeV rfl (by omega) (gf := 68) (lb := #[.pointer (some ⟨B2, 0, none⟩)]) rfl trivial (enters_of Tryz.func68 (by kernel_rfl) rfl)
    (seqMF 7 B2 _ w7.heap.size n n p2 N cap5 f w7 (Nat.le_refl _) HK7.out) (fun x A B h => h.1) (fun h k => h.trans k) (span_b (Nat.le_refl _)) (fun _ => rfl)
    (fun (pre : List RowX) U => (∃ v, Boxed U w6.heap.size 26 v ∧ U.ownsRow w5.heap.size 32 3 v (pre.map fun x : RowX => f x.1 x.1).length ((pre.map fun x : RowX => f x.1 x.1).flatMap cellsF) ∧ (∀ b, v.ownBlock = some b → b < w6b.heap.size ∨ w7.heap.size ≤ b)) ∧ (Below w5.heap.size w5 U ∧ w7.heap.size ≤ U.heap.size))
    (fun _ _ _ => False)
    (OwnFrom.and (Own.from (holdsRow_own w5.heap.size w6.heap.size 26 32 3 (fun pre : List RowX => (pre.map fun x : RowX => f x.1 x.1).length) (fun pre : List RowX => (pre.map fun x : RowX => f x.1 x.1).flatMap cellsF) (fun _ v => ∀ b, v.ownBlock = some b → b < w6b.heap.size ∨ w7.heap.size ≤ b)) _) (OwnFrom.and (ownFrom_below (Nat.le_refl _) b57.size) (own_size _ _)))
    (fun _ _ _ _ _ hs _ _ => hs)
    ⟨⟨_, bl7, own7, fun b hb => by cases hb; exact .inl hlt5⟩, b57, Nat.le_refl _⟩
    (fun a x a' U => Rw 3 cellsF U (rowV n x) (rowM n f x.1) ∧ (x.1 < n ∧ a' = { tmps := ((((a.tmps.setIfInBounds 14 (.int .i64 x.1)).setIfInBounds 15 (rowV n x)).setIfInBounds 4 (.int .i64 x.1)).setIfInBounds 5 (rowV n x)), defers := [] }))
    (fun x a' _ X Y row hs hg hr => ⟨rw_own hs.1 hg (fun r e => (hr r e).2), hs.2⟩)
    ?assign ?body ?done ?stop
  case assign =>
    rintro l pre x W0 U K' _ ⟨hbU, hxR, hrow, hfr, hcc⟩ hI hK'
    have HK2 := hideP hK'
    have HI := hideP hI
    clear hK' hI
    gi_wp2
    exact HK2.out _ _ (KeepsFrom.refl _ _) (Span.refl _ _ _) HI.out ⟨hrow, hxR, rfl⟩
  case body =>
    rintro l pre x a' U hl' ⟨r, hr'⟩ ⟨⟨v0, hv0, hrow, hgv⟩, hbU, hsU⟩ ⟨hrx, hxn, rfl⟩ hlt
    simp only [List.setIfInBounds_toArray, List.set_cons_zero, List.set_cons_succ]
    gi_wp2_with fail
    have hlen2 : (pre.map fun x : RowX => f x.1 x.1).length ≤ 100000 := by rw [List.length_map]; omega
    have hne0 : some w6.heap.size ≠ v0.ownBlock := hv0.not_row (by decide) hrow
    obtain ⟨rb, ro, hp1, hrl, hrc⟩ := rw_cells7 hrx (show 0 < n by omega)
    have hb5 := b57.size
    have y0 : ∀ u, Bl U u → u.cell? ⟨rb, ro + x.1 * 3, none⟩ = some (.int .i64 (f x.1 x.1).n) := fun u hu => (bl_cell hu _ _ hrl).trans (hrc x.1 _ (rowM_get f x.1 hxn) 0 _ rfl)
    have y1 : ∀ u, Bl U u → u.cell? ⟨rb, ro + x.1 * 3 + 1, none⟩ = some (.int .i64 (f x.1 x.1).d) := fun u hu => (bl_cell hu _ _ hrl).trans (hrc x.1 _ (rowM_get f x.1 hxn) 1 _ rfl)
    have y2 : ∀ u, Bl U u → u.cell? ⟨rb, ro + x.1 * 3 + 2, none⟩ = some (.bool (f x.1 x.1).bad) := fun u hu => (bl_cell hu _ _ hrl).trans (hrc x.1 _ (rowM_get f x.1 hxn) 2 _ rfl)
    refine (region_qa fm [some 16, some 17, some 18, some 19, some 20, some 21, some 22, none] 6 (by kernel_rfl) (by rfl)
      (fun j v u => match j with | 0 => v = v0 | 1 => v = rowV n x | 2 => v = .int .i64 x.1 | 3 => v = .pointer (some ⟨rb, ro + x.1 * 3, none⟩) | 4 => v = frV (f x.1 x.1) | 5 => ∃ gz, v = .slice (some ⟨gz, 0, none⟩) 1 1 ∧ FBox u gz (f x.1 x.1) | _ => False)
      (by
        intro j v u u' hb h
        split at h <;> first | exact h | (obtain ⟨b, e, h1⟩ := h; exact ⟨b, e, h1.later hb⟩)) (fun vs v u0 u => ∃ g' cap', v = .slice (some ⟨g', 0, none⟩) ((pre.map fun x : RowX => f x.1 x.1).length + 1) cap' ∧ u0.grownBy u v0.ownBlock ∧ u.ownsRow w5.heap.size 32 3 (.slice (some ⟨g', 0, none⟩) ((pre.map fun x : RowX => f x.1 x.1).length + 1) cap') ((pre.map fun x : RowX => f x.1 x.1).length + 1) ((pre.map fun x : RowX => f x.1 x.1).flatMap cellsF ++ cellsF (f x.1 x.1)) ∧ (some g' = v0.ownBlock ∨ g' = u0.heap.size)) (fun vs v u0 u => ∃ wz g' cap', u = wz.setCell ⟨w6.heap.size, 0, none⟩ (.slice (some ⟨g', 0, none⟩) ((pre.map fun x : RowX => f x.1 x.1).length + 1) cap') ∧ u0.grownBy wz v0.ownBlock ∧ wz.ownsRow w5.heap.size 32 3 (.slice (some ⟨g', 0, none⟩) ((pre.map fun x : RowX => f x.1 x.1).length + 1) cap') ((pre.map fun x : RowX => f x.1 x.1).length + 1) ((pre.map fun x : RowX => f x.1 x.1).flatMap cellsF ++ cellsF (f x.1 x.1)) ∧ (some g' = v0.ownBlock ∨ g' = u0.heap.size)) ?step ?app ?store ?fin)
    case step =>
      intro j o t act u ho hdt hjs hsz hu hfr hin
      have e0 := y0 u hu; have e1 := y1 u hu; have e2 := y2 u hu
      rcases (by omega : j = 0 ∨ j = 1 ∨ j = 2 ∨ j = 3 ∨ j = 4 ∨ j = 5) with rfl | rfl | rfl | rfl | rfl | rfl
      · simp only [List.getElem?_toArray, List.getElem?_cons_zero, List.getElem?_cons_succ, Option.some.injEq] at ho
        subst ho
        obtain rfl := Option.some.inj hdt
        have i3 : act.eval (.tmp (3 : Nat)) = .pointer (some ⟨w6.heap.size, 0, none⟩) := hfr 3 (by decide)
        exact load_wp _ _ rfl (by rw [i3]; exact Tryz.load1F w6.heap.size _ u (boxed_bl hv0 hu).cell) ⟨_, rfl, rfl, Bl.refl _⟩
      · simp only [List.getElem?_toArray, List.getElem?_cons_zero, List.getElem?_cons_succ, Option.some.injEq] at ho
        subst ho
        obtain rfl := Option.some.inj hdt
        have i5 : act.eval (.tmp (5 : Nat)) = rowV n x := hfr 5 (by decide)
        exact plain_wp (by intro c h; cases h) (fun _ _ => trivial) (by simp only [execOp, i5, evalC, evalF, evalG]; simp [go_sem]) ⟨_, rfl, rfl, Bl.refl _⟩
      · simp only [List.getElem?_toArray, List.getElem?_cons_zero, List.getElem?_cons_succ, Option.some.injEq] at ho
        subst ho
        obtain rfl := Option.some.inj hdt
        have i4 : act.eval (.tmp (4 : Nat)) = .int .i64 x.1 := hfr 4 (by decide)
        exact plain_wp (by intro c h; cases h) (fun _ _ => trivial) (by simp only [execOp, i4, evalC, evalF, evalG]; simp [go_sem]) ⟨_, rfl, rfl, Bl.refl _⟩
      · simp only [List.getElem?_toArray, List.getElem?_cons_zero, List.getElem?_cons_succ, Option.some.injEq] at ho
        subst ho
        obtain rfl := Option.some.inj hdt
        have i17 : (act.eval (.tmp (17 : Nat))) = rowV n x := hin ⟨1, .data⟩ (by simp) rfl 17 rfl
        have i18 : (act.eval (.tmp (18 : Nat))) = .int .i64 x.1 := hin ⟨2, .data⟩ (by simp) rfl 18 rfl
        exact plain_wp (by intro c h; cases h) (fun _ _ => trivial) (by simp only [execOp, i17, i18, rowV, hp1]; simp [go_sem, hxn]) ⟨_, rfl, rfl, Bl.refl _⟩
      · simp only [List.getElem?_toArray, List.getElem?_cons_zero, List.getElem?_cons_succ, Option.some.injEq] at ho
        subst ho
        obtain rfl := Option.some.inj hdt
        have i19 : (act.eval (.tmp (19 : Nat))) = .pointer (some ⟨rb, ro + x.1 * 3, none⟩) := hin ⟨3, .data⟩ (by simp) rfl 19 rfl
        exact plain_wp (by intro c h; cases h) (fun _ _ => trivial) (by simp only [execOp, i19]; simp [go_sem, e0, e1, e2]) ⟨_, rfl, rfl, Bl.refl _⟩
      · simp only [List.getElem?_toArray, List.getElem?_cons_zero, List.getElem?_cons_succ, Option.some.injEq] at ho
        subst ho
        obtain rfl := Option.some.inj hdt
        have i20 : (act.eval (.tmp (20 : Nat))) = frV (f x.1 x.1) := hin ⟨4, .data⟩ (by simp) rfl 20 rfl
        refine build_wp _ _ rfl (by rw [i20]; exact Tryz.build1F _ u) ?_
        exact ⟨_, rfl, ⟨u.heap.size, rfl, FBox.new u _ _⟩, (Bl.refl _).alloc _⟩
    case app =>
      intro o t act u vs ho hdt hsz hu hfr hin
      simp only [List.getElem?_toArray, List.getElem?_cons_zero, List.getElem?_cons_succ, Option.some.injEq] at ho
      subst ho
      obtain rfl := Option.some.inj hdt
      obtain ⟨i16, k16⟩ : act.eval (.tmp (16 : Nat)) = vs 0 ∧ ((vs 0) = v0) := hin 0 16 (by omega) rfl
      obtain ⟨i21, k21⟩ : act.eval (.tmp (21 : Nat)) = vs 5 ∧ (∃ gz, (vs 5) = .slice (some ⟨gz, 0, none⟩) 1 1 ∧ FBox u gz (f x.1 x.1)) := hin 5 21 (by omega) rfl
      obtain ⟨gz, eg, bz⟩ := k21
      rw [eg] at i21
      rw [k16] at i16
      refine stepIn_append (.tmp (16 : Nat)) (.tmp (21 : Nat)) 26 rfl w5.heap.size 32 i0 (.agg #[.int .i64 0, .int .i64 0, .bool false]) 3 24 Tryz.underlying26 hi hz0 hz1 hz2 rfl (by decide) v0 (pre.map fun x : RowX => f x.1 x.1).length ((pre.map fun x : RowX => f x.1 x.1).flatMap cellsF) i16 (own_blF hrow hu) ⟨gz, 0, none⟩ 1 1 (cellsF (f x.1 x.1)) i21 rfl bz.cells (oneF_cells _) (by unfold maxLen; omega) (by omega) (by have := hu.size; omega) ?_
      intro v' w5 hown' hgrow hat
      obtain ⟨g', cap', rfl⟩ := ownsRow_succ hown'
      refine ⟨_, rfl, g', cap', rfl, hgrow, hown', ?_⟩
      rcases hat with h | h
      · exact .inl h
      · exact .inr (by simpa [Value.ownBlock] using h)
    case store =>
      intro o act u0 u vs v ho hsz hu hfr hin hv hpa
      simp only [List.getElem?_toArray, List.getElem?_cons_zero, List.getElem?_cons_succ, Option.some.injEq] at ho
      subst ho
      have i3 : act.eval (.tmp (3 : Nat)) = .pointer (some ⟨w6.heap.size, 0, none⟩) := hfr 3 (by decide)
      have i22 : act.eval (.tmp (22 : Nat)) = v := hv 22 rfl
      obtain ⟨g', cap', rfl, hgrow, hown', hat⟩ := hpa
      have hbu := (boxed_bl hv0 hu).kept hgrow hne0
      exact skip_wp (by intro c h; cases h) (fun _ _ => trivial) (by simp only [execOp, i3, i22]; simp [go_sem, hbu.cell, hbu.frozen]) ⟨rfl, u, g', cap', rfl, hgrow, hown', hat⟩
    case fin =>
      intro vs v u0 u hu hin hpb
      obtain ⟨w8, g', cap', rfl, k2, k3, k4⟩ := hpb
      have k1 := hu
      clear hin
      have hvu := boxed_bl hv0 k1
      have hru := own_blF hrow k1
      have hsu := k1.size
      have hu5 : w5.heap.size ≤ u0.heap.size := by omega
      obtain ⟨hv5, hv6, hr6, hk6, hb6⟩ := boxed_appended hvu (by decide) hru hu5 (by omega) k3 k2
      have hg8 := k2.size
      refine ⟨(k1.keeps _).trans (hk6.from _), span_appended k1 (by omega) hgv k2 (by omega), ⟨_, hv6, ?_, ?_⟩, ?_, ?_⟩
      · rw [List.map_append]
        simpa [List.flatMap_append] using hr6
      · intro b hb
        have hb' : g' = b := by cases hb; rfl
        subst hb'
        rcases k4 with h | h
        · exact hgv _ h.symm
        · exact .inr (by omega)
      · exact hbU.trans ((k1.mono (by omega)).trans hb6)
      · simp; omega
  case done =>
    rintro Dm zs U hD hS ⟨⟨v, hv, hrow, _⟩, hb5, hs7'⟩ hKD
    have e : (zs.map fun x : RowX => f x.1 x.1) = (List.range n).map fun i => f i i := by rw [← hS, List.map_map]; rfl
    rw [e] at hrow
    have RW := Rw.of_own cellsF_len (ownsRow_putObj hrow (.deferred none) hKD rfl)
    obtain ⟨p', cap', hv', _, _⟩ := RW.cut
    rw [List.length_map, List.length_range] at hv'
    subst hv'
    have hcl := hv.cell
    have hbw : Bl w U := bw5.trans hb5
    have HRW := hideP RW
    have HKD := hideP hKD
    clear hrow RW hKD hv
    gi_wp2
    refine ⟨by simp, .inl ⟨_, _, rfl, run_takeDeferred HKD.out, ?_⟩⟩
    exact ⟨_, results_tmp rfl _ _ _, p', cap', rfl, HRW.out, Below.trans hbw (belowK_b (w := w) (Nat.le_refl _) U Dm _ _ (by have := bw5.size; have := b57.size; omega) HKD.out rfl rfl)⟩
  case stop =>
    rintro D' c pre U _ _ h _
    exact h.elim
theorem tDiagF_no (r c : Int) (p : Option Addr) (n cap : Nat) (w : World) (hsq : sqB r c n = false) :
    Calls Tryz.prog 25 #[mV r c p n cap] w fun e w' => e = .returned (.slice none 0 0) ∧ Bl w w' := by
  obtain ⟨W, hW⟩ : ∃ W, W = w.alloc (.cells #[.int .i64 r, .int .i64 c, .slice p n cap] 28) := ⟨_, rfl⟩
  have b0 : Bl w W := by rw [hW]; exact (Bl.refl _).alloc _
  have HW := hideP hW
  clear hW
  go_enter Tryz.func25, Tryz.ntmps25
  go_wp2_with fail
  rw [← HW.out]
  refine (tSquareF _ _ _ _ _ _).mono ?_
  rintro e w1 ⟨rfl, h1⟩
  rw [hsq]
  go_wp2
  go_ret
  exact ⟨rfl, b0.trans h1⟩
end Go.Proofs.YtbfdkahbnfpabaaGreat

/- awake of layer 7's laws; whether a number is 0, as the laws' closures tell it. -/
namespace Go.Proofs.YtbfdkahbnfpabaaGreat
open Go.RowKit
set_option linter.unusedSimpArgs false
set_option linter.unusedVariables false

def zeroN (x : Fr) : Bool := x.n == 0
theorem zero1_any (x : Fr) (w : World) : Calls Tryz.prog 24 #[frV x] w fun e w' => e = .returned (.bool (zeroN x)) ∧ Bl w w' := by
  unfold zeroN
  go_enter Tryz.func24, Tryz.ntmps24
  go_wp2
  go_ret
  exact ⟨rfl, (Bl.refl _).alloc _⟩
theorem aboveB_low {n : Nat} {s : Nat → Nat → Int} (hl : Low 0 s) : aboveB n (fun i k => itF (s i k)) zeroN = true :=
  aboveB_iff.2 fun i k h _ => by
    unfold zeroN itF
    rw [hl i k h]
    rfl
/-- A matrix of whole numbers, as layer 6's Same is asked of it. -/
theorem mxI_rq {w : World} {R C : Nat} {p : Option Addr} {n cap : Nat} {s : Nat → Nat → Int} (h : MxI w R C p n cap s) : Rq 3 cellsF w (.slice p n cap) ((mk R C s).map itF) := by
  rw [mk_map]; exact h.2.2
set_option maxHeartbeats 1000000 in
theorem awake7_any (w : World) : Calls Tryz.prog 6 #[] w fun e w' => e = .returned (.bool true) ∧ Bl w w' := by
  have s1 : Sml 100 [4, 2, 2, 5] := by intro x hx; simp at hx; omega
  have s2 : Sml 100 [2, 0, 1, 2] := by intro x hx; simp at hx; omega
  obtain ⟨s, hs⟩ : ∃ s, s = clrI (ofL 2 [2, 0, 1, 2]) := ⟨_, rfl⟩
  have hlow : Low 0 s := by rw [hs]; exact clrI_low _
  have hsm : Sm2 100 2 2 s := by rw [hs]; exact clrI_sm (by omega) (ofL_sml rfl s2)
  have hpos : ∀ k, k < 2 → 0 < s k k := by
    intro k hk
    rw [hs]
    obtain rfl | rfl : k = 0 ∨ k = 1 := by omega
    · decide
    · decide
  have hsq : ∀ i k, i < 2 → k < 2 → itF (ofL 2 [4, 2, 2, 5] i k) = itF (sqI 2 s i k) := by
    intro i k hi hk
    rw [hs]
    obtain ⟨rfl | rfl, rfl | rfl⟩ : (i = 0 ∨ i = 1) ∧ (k = 0 ∨ k = 1) := by omega
    · rfl
    · rfl
    · rfl
    · rfl
  have hmk : mk 2 2 s = [2, 0, 1, 2] := by rw [hs]; rfl
  have hab := aboveB_low (n := 2) hlow
  have HS := hideP hs
  have HLOW := hideP hlow
  have HSM := hideP hsm
  have HPOS := hideP hpos
  have HSQ := hideP hsq
  have HMK := hideP hmk
  have HAB := hideP hab
  clear hs hlow hsm hpos hsq hmk hab
  go_enter Tryz.func6, Tryz.ntmps6
  go_wp2_with fail
  refine (whole22 4 2 2 5 w _ s1 _ rfl).mono ?_
  rintro e w1 ⟨p1, c1, rfl, hx, h1⟩
  have HX := hideP (hx.congr HSQ.out)
  clear hx
  have m1 := MBox.new w1 2 2 p1 4 c1 28
  go_wp2_with fail
  refine (root7_any 2 p1 4 c1 s _ (HX.out.later ((Bl.refl _).alloc _)) HSM.out HLOW.out HPOS.out).mono ?_
  rintro e w2 ⟨p2, c2, rfl, hy, h2⟩
  have HY := hideP hy
  clear hy
  have m2 := MBox.new w2 2 2 p2 4 c2 28
  obtain ⟨x0, x1, x2, _, _, _, lt2⟩ := id m2
  have SA := hideP (fun (o : Obj) (t : TypeId) => same6_any 2 2 p2 4 c2 (some ⟨w2.heap.size + 1, 0, none⟩) 4 [2, 0, 1, 2] ((w2.alloc o).alloc (.cells #[.int .i64 2, .int .i64 0, .int .i64 1, .int .i64 2] t)) (by rw [← HMK.out]; exact mxI_rq (HY.out.later (((Bl.refl _).alloc _).alloc _))) (by have := rq_new4 (w2.alloc o) 2 0 1 2 t; rwa [World.size_alloc] at this) rfl (fun x hx => by have := s2 x hx; exact ⟨by omega, by omega⟩) (by omega))
  go_wp2_with fail
  refine (SA.out _ _).mono ?_
  rintro e w3 ⟨rfl, h3⟩
  clear x0 x1 x2 SA
  obtain ⟨x0, x1, x2, _, _, _, lt3⟩ := m2.later (((Bl.refl _).alloc _).trans h3)
  have b23 : Bl w2 w3 := (((Bl.refl _).alloc _).alloc _).trans h3
  go_wp2_with fail
  refine (tIsF 2 p2 4 c2 _ 24 zeroN w3 (HY.out.later b23) (enters_of Tryz.func24 (by kernel_rfl) rfl) (fun x u _ => zero1_any x u)).mono ?_
  rintro e w4 ⟨rfl, h4⟩
  rw [HAB.out]
  clear x0 x1 x2
  obtain ⟨x0, x1, x2, _, _, _, lt4⟩ := (m2.later (((Bl.refl _).alloc _).trans h3)).later h4
  go_wp2_with fail
  refine (tDiagF 2 p2 4 c2 _ w4 (HY.out.later (b23.trans h4))).mono ?_
  rintro e w5 ⟨p5, c5, rfl, hr5, h5⟩
  clear hr5 x0 x1 x2
  go_wp2
  go_ret
  exact ⟨rfl, ((((((Bl.refl w).alloc _).trans h1).alloc _).trans h2).trans b23).trans (h4.trans h5)⟩
end Go.Proofs.YtbfdkahbnfpabaaGreat

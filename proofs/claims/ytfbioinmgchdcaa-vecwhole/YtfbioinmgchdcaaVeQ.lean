/- The walk of VecWhole. Written by genVw.py. -/
import Derived.Test.YtfbioinmgchdcaaVeJ
import Derived.Test.YtfbioinmgchdcaaVeK
import Derived.Deep.RegionWith
namespace Go.Proofs.Ytfbioinmgchdcaa
open Go.RowKit
set_option linter.unusedSimpArgs false
set_option linter.unusedVariables false

theorem neq_selfV (r : Fr) (w : World) : (binOp .neq 28 (frV r) (frV r)).run Try.prog w = .ok (.bool false) w := by rw [neq_fr, eqR_self]; rfl
theorem rwI_at {w : World} {p : Option Addr} {l c : Nat} {ns : List Int} (h : RwI w (.slice p l c) ns) {k : Nat} {x : Int} (hk : ns[k]? = some x) : ∃ b o, p = some ⟨b, o, none⟩ ∧ ∀ u, Bl w u → u.cell? ⟨b, o + k * 3, none⟩ = some (.int .i64 (itF x).n) ∧ u.cell? ⟨b, o + k * 3 + 1, none⟩ = some (.int .i64 (itF x).d) ∧ u.cell? ⟨b, o + k * 3 + 2, none⟩ = some (.bool (itF x).bad) := by
  have hk' : (ns.map itF)[k]? = some (itF x) := by rw [List.getElem?_map, hk]; rfl
  rcases h with ⟨_, h0⟩ | ⟨b, o, cap, e, _, hb, hx⟩
  · rw [h0] at hk'; simp at hk'
  · cases e
    exact ⟨b, o, rfl, fun u hu => ⟨(bl_cell hu _ _ hb).trans (hx k _ hk' 0 _ rfl), (bl_cell hu _ _ hb).trans (hx k _ hk' 1 _ rfl), (bl_cell hu _ _ hb).trans (hx k _ hk' 2 _ rfl)⟩⟩
theorem rqI_at {w : World} {p : Option Addr} {cap l : Nat} {xs : List Int} (h : Rq 1 cI w (.slice p l cap) xs) {k : Nat} {x : Int} (hk : xs[k]? = some x) : ∃ b o, p = some ⟨b, o, none⟩ ∧ ∀ u, Bl w u → u.cell? ⟨b, o + k, none⟩ = some (.int .i64 x) := by
  rcases h with ⟨_, _, _, h0, _⟩ | ⟨b, o, c, e, _, hlt, HX⟩
  · rw [h0] at hk; simp at hk
  · cases e; exact ⟨b, o, rfl, fun u hu => (bl_cell hu _ _ hlt).trans (cellI HX hk (wr := w))⟩
theorem sum_snoc {xs : List Int} {k : Nat} {x : Int} (h : xs[k]? = some x) : (xs.take (k + 1)).sum = (xs.take k).sum + x := by
  rw [List.take_add_one, h]
  simp
set_option maxRecDepth 100000 in
set_option maxHeartbeats 8000000 in
theorem walk_VecWhole (va : Value) (xs : List Int) (vb : Value) (ys : List Int) (n : Int) (w : World) (ha : Rq 1 cI w va xs) (hb : Rq 1 cI w vb ys) :
    Calls Try.prog 3 #[va, vb, .int .i64 n] w fun e w' => e = .returned (.bool true) ∧ Bl w w' := by
  have AW := hideP awake5_any
  have Fa := hideP (few_any va xs w ha)
  obtain ⟨pa, ka, rfl, ia, _⟩ := ha.cut
  obtain ⟨la, ea⟩ : ∃ l, xs.length = l := ⟨_, rfl⟩
  rw [ea] at ha ia Fa ⊢
  have Ha := hideP ha
  have La := hideP ea
  clear ea ha
  have Fb := hideP (few_any vb ys w hb)
  obtain ⟨pb, kb, rfl, ib, _⟩ := hb.cut
  obtain ⟨lb, eb⟩ : ∃ l, ys.length = l := ⟨_, rfl⟩
  rw [eb] at hb ib Fb ⊢
  have Hb := hideP hb
  have Lb := hideP eb
  clear eb hb
  go_enter Try.func3, Try.ntmps3
  go_wp2_with fail
  refine Fa.out.mono ?_
  rintro e wa ⟨b, rfl, hb, rfl⟩
  clear Fa
  cases b
  · clear hb
    go_wp2_with fail
    refine (AW.out _).mono ?_
    rintro e w9 ⟨rfl, h9⟩
    go_wp2
    go_ret
    exact ⟨rfl, h9⟩
  have Sa := hideP (hb rfl)
  clear hb
  go_wp2_with fail
  refine Fb.out.mono ?_
  rintro e wb ⟨b, rfl, hb, rfl⟩
  clear Fb
  cases b
  · clear hb
    go_wp2_with fail
    refine (AW.out _).mono ?_
    rintro e w9 ⟨rfl, h9⟩
    go_wp2
    go_ret
    exact ⟨rfl, h9⟩
  have Sb := hideP (hb rfl)
  clear hb
  by_cases h1 : n < -1000
  · skip
    go_wp2_with fail
    refine (AW.out _).mono ?_
    rintro e w9 ⟨rfl, h9⟩
    go_wp2
    go_ret
    exact ⟨rfl, h9⟩
  by_cases h2 : 1000 < n
  · skip
    go_wp2_with fail
    refine (AW.out _).mono ?_
    rintro e w9 ⟨rfl, h9⟩
    go_wp2
    go_ret
    exact ⟨rfl, h9⟩
  obtain ⟨m, hmin⟩ : ∃ m, m = min la lb := ⟨_, rfl⟩
  have hm0 : min (la : Int) (lb : Int) = (m : Int) := by omega
  have hm1 : (if lb < la then (lb : Int) else (la : Int)) = (m : Int) := by split <;> omega
  have hla : la ≤ 20 := by have := Sa.out.1; have := La.out; omega
  have hlb : lb ≤ 20 := by have := Sb.out.1; have := Lb.out; omega
  have HM := hideP hmin
  clear hmin
  go_wp2_with fail
  have WH := whole_few _ xs _ Ha.out Sa.out.2 Sa.out.1
  rw [La.out] at WH
  refine WH.mono ?_
  clear WH
  rintro e u1 ⟨qa, ca, rfl, ⟨ra, _⟩, g1⟩
  have Ra := hideP ra
  clear ra
  go_wp2_with fail
  have WH := whole_few _ ys _ (Hb.out.later g1) Sb.out.2 Sb.out.1
  rw [Lb.out] at WH
  refine WH.mono ?_
  clear WH
  rintro e u2 ⟨qb, cb, rfl, ⟨rb, _⟩, g2⟩
  have Rb := hideP rb
  clear rb
  go_wp2_with fail
  have WH := add_few (.slice qa la ca) (.slice qb lb cb) xs ys _ (Ra.out.later g2) Rb.out Sa.out.2 Sb.out.2 Sa.out.1 Sb.out.1
  rw [La.out, Lb.out, ← HM.out] at WH
  refine WH.mono ?_
  clear WH
  rintro e u3 ⟨qs, cs, rfl, ⟨rs, _⟩, g3⟩
  have Rs := hideP rs
  clear rs
  go_wp2_with fail
  have WH := sub_few (.slice qa la ca) (.slice qb lb cb) xs ys _ (Ra.out.later (g2.trans g3)) (Rb.out.later g3) Sa.out.2 Sb.out.2 Sa.out.1 Sb.out.1
  rw [La.out, Lb.out, ← HM.out] at WH
  refine WH.mono ?_
  clear WH
  rintro e u4 ⟨ql, cl, rfl, ⟨rl, _⟩, g4⟩
  have Rl := hideP rl
  clear rl
  go_wp2_with fail
  refine (new_few (n := n) ⟨by omega, by omega⟩ _).mono ?_
  rintro e u5 ⟨rfl, g5⟩
  go_wp2_with fail
  have WH := scale_few (.slice qa la ca) xs n _ (Ra.out.later (g2.trans (g3.trans (g4.trans g5)))) Sa.out.2 (by omega) Sa.out.1
  rw [La.out] at WH
  refine WH.mono ?_
  clear WH
  rintro e u6 ⟨qm, cm, rfl, ⟨rm, _⟩, g6⟩
  have Rm := hideP rm
  clear rm
  have b36 : Bl u3 u6 := g4.trans (g5.trans g6)
  have b26 : Bl u2 u6 := g3.trans b36
  have b16 : Bl u1 u6 := g2.trans b26
  have b06 : Bl wb u6 := g1.trans b16
  have b46 : Bl u4 u6 := g5.trans g6
  clear g1 g2 g3 g4 g5 g6
  go_wp2_with fail
  refine (dot_few (A := 1000) (B := 1000) (.slice qa la ca) (.slice qb lb cb) xs ys _ (Ra.out.later b16) (Rb.out.later b26) Sa.out.2 Sb.out.2 (by omega) (by omega) (by omega) Sa.out.1 Sb.out.1).mono ?_
  rintro e u7 ⟨rfl, g7⟩
  go_wp2_with fail
  refine (refDot5_any _ _ xs ys _ (Ha.out.later (b06.trans g7)) (Hb.out.later (b06.trans g7)) Sa.out.2 Sb.out.2 Sa.out.1 Sb.out.1).mono ?_
  rintro e u8 ⟨rfl, g8⟩
  have hdb := dotI_bound Sa.out.2 Sb.out.2 (by omega) (by omega) Sa.out.1
  go_wp2_with fail
  refine (new_few (n := dotI xs ys) ⟨by omega, by omega⟩ _).mono ?_
  rintro e u9 ⟨rfl, g9⟩
  clear hdb
  have EG := Try.frGuard
  have ne1 := neq_selfV (itF (dotI xs ys))
  generalize itF (dotI xs ys) = r at *
  go_wp2_with fail
  have b09 : Bl wb u9 := b06.trans (g7.trans (g8.trans g9))
  have b19 : Bl u1 u9 := b16.trans (g7.trans (g8.trans g9))
  have b39 : Bl u3 u9 := b36.trans (g7.trans (g8.trans g9))
  have b49 : Bl u4 u9 := b46.trans (g7.trans (g8.trans g9))
  have b69 : Bl u6 u9 := g7.trans (g8.trans g9)
  have HBA := hideP (Ha.out.later b09)
  have HBB := hideP (Hb.out.later b09)
  have HRX := hideP (Ra.out.later b19)
  have HRS := hideP (Rs.out.later b39)
  have HRL := hideP (Rl.out.later b49)
  have HRM := hideP (Rm.out.later b69)
  have B09 := hideP b09
  clear b36 b26 b16 b06 b46 b09 b19 b39 b49 b69 g7 g8 g9 ne1 Ra Rb Rs Rl Rm Ha Hb
  have hmla : m ≤ la := by have := HM.out; omega
  have hmlb : m ≤ lb := by have := HM.out; omega
  go_loopw [13, 87] (fun s i wr => ∃ k : Nat, i = .int .i64 k ∧ k ≤ la ∧ s = .int .i64 (xs.take k).sum ∧ Bl u9 wr) (fun _ i _ => la - (intOf i).toNat)
  case atStart => exact ⟨0, rfl, Nat.zero_le _, by simp, Bl.refl _⟩
  case round =>
    obtain ⟨k, rfl, hk, rfl, bl⟩ := hrel
    have hsb := (Sa.out.2.take k).sum
    by_cases hlt : k < la
    · obtain ⟨x, hx⟩ : ∃ x, xs[k]? = some x := ⟨_, List.getElem?_eq_getElem (by rw [La.out]; exact hlt)⟩
      have bx := Sa.out.2 x (List.mem_of_getElem? hx)
      have bm := mul_bound bx (show -1000 ≤ n ∧ n ≤ 1000 by omega)
      obtain ⟨ba, oa, rfl, CA⟩ := rqI_at HBA.out hx
      obtain ⟨bX, oX, rfl, CX⟩ := rwI_at HRX.out hx
      obtain ⟨bM, oM, rfl, CM⟩ := rwI_at (k := k) (x := x * n) HRM.out (by rw [List.getElem?_map, hx]; rfl)
      have HN := hideP (sum_snoc hx)
      have hsl : ((xs.take k).length : Int) ≤ 20 := by have := La.out; simp; omega
      generalize (xs.take k).sum = sm at *
      have HSB := hideP (show -20000 ≤ sm ∧ sm ≤ 20000 by omega)
      have HXX := hideP hx
      clear hsb hsl hx
      have ca0 := CA wr bl
      have N1 := hideP (fun u => new_few (n := x) ⟨by omega, by omega⟩ u)
      have N2 := hideP (fun u => new_few (n := x * n) ⟨by omega, by omega⟩ u)
      have wP : wrap64 (x * n) = x * n := by unfold wrap64; omega
      have eX := neq_selfV (itF x)
      have eM := neq_selfV (itF (x * n))
      have hsm := HSB.out
      have t1 : ¬ x < -1000 := by omega
      have t2 : ¬ 1000 < x := by omega
      clear bm
      by_cases hkm : k < m
      · have dk : decide ((k : Int) < (m : Int)) = true := decide_eq_true (by omega)
        obtain ⟨y, hy⟩ : ∃ y, ys[k]? = some y := ⟨_, List.getElem?_eq_getElem (by rw [Lb.out]; omega)⟩
        have bY := Sb.out.2 y (List.mem_of_getElem? hy)
        obtain ⟨bb, ob, rfl, CB⟩ := rqI_at HBB.out hy
        obtain ⟨bS, oS, rfl, CS⟩ := rwI_at (k := k) (x := x + y) HRS.out (by rw [List.getElem?_zipWith, HXX.out, hy])
        obtain ⟨bL, oL, rfl, CL⟩ := rwI_at (k := k) (x := x - y) HRL.out (by rw [List.getElem?_zipWith, HXX.out, hy])
        have N3 := hideP (fun u => new_few (n := x + y) ⟨by omega, by omega⟩ u)
        have N4 := hideP (fun u => new_few (n := x - y) ⟨by omega, by omega⟩ u)
        have eS := neq_selfV (itF (x + y))
        have eL := neq_selfV (itF (x - y))
        clear hy
        go_wp2_with fail
        have wne := wl_ne wr
        obtain ⟨zx0, zx1, zx2⟩ : (∀ z : Wl wr, z.w.cell? ⟨bX, oX + k * 3, none⟩ = some (.int .i64 (itF x).n)) ∧ (∀ z : Wl wr, z.w.cell? ⟨bX, oX + k * 3 + 1, none⟩ = some (.int .i64 (itF x).d)) ∧ (∀ z : Wl wr, z.w.cell? ⟨bX, oX + k * 3 + 2, none⟩ = some (.bool (itF x).bad)) := ⟨fun z => (CX z.w (bl.trans z.bl)).1, fun z => (CX z.w (bl.trans z.bl)).2.1, fun z => (CX z.w (bl.trans z.bl)).2.2⟩
        obtain ⟨zm0, zm1, zm2⟩ : (∀ z : Wl wr, z.w.cell? ⟨bM, oM + k * 3, none⟩ = some (.int .i64 (itF (x * n)).n)) ∧ (∀ z : Wl wr, z.w.cell? ⟨bM, oM + k * 3 + 1, none⟩ = some (.int .i64 (itF (x * n)).d)) ∧ (∀ z : Wl wr, z.w.cell? ⟨bM, oM + k * 3 + 2, none⟩ = some (.bool (itF (x * n)).bad)) := ⟨fun z => (CM z.w (bl.trans z.bl)).1, fun z => (CM z.w (bl.trans z.bl)).2.1, fun z => (CM z.w (bl.trans z.bl)).2.2⟩
        have za : ∀ z : Wl wr, z.w.cell? ⟨ba, oa + k, none⟩ = some (.int .i64 x) := fun z => CA z.w (bl.trans z.bl)
        obtain ⟨zs0, zs1, zs2⟩ : (∀ z : Wl wr, z.w.cell? ⟨bS, oS + k * 3, none⟩ = some (.int .i64 (itF (x + y)).n)) ∧ (∀ z : Wl wr, z.w.cell? ⟨bS, oS + k * 3 + 1, none⟩ = some (.int .i64 (itF (x + y)).d)) ∧ (∀ z : Wl wr, z.w.cell? ⟨bS, oS + k * 3 + 2, none⟩ = some (.bool (itF (x + y)).bad)) := ⟨fun z => (CS z.w (bl.trans z.bl)).1, fun z => (CS z.w (bl.trans z.bl)).2.1, fun z => (CS z.w (bl.trans z.bl)).2.2⟩
        obtain ⟨zl0, zl1, zl2⟩ : (∀ z : Wl wr, z.w.cell? ⟨bL, oL + k * 3, none⟩ = some (.int .i64 (itF (x - y)).n)) ∧ (∀ z : Wl wr, z.w.cell? ⟨bL, oL + k * 3 + 1, none⟩ = some (.int .i64 (itF (x - y)).d)) ∧ (∀ z : Wl wr, z.w.cell? ⟨bL, oL + k * 3 + 2, none⟩ = some (.bool (itF (x - y)).bad)) := ⟨fun z => (CL z.w (bl.trans z.bl)).1, fun z => (CL z.w (bl.trans z.bl)).2.1, fun z => (CL z.w (bl.trans z.bl)).2.2⟩
        have zb : ∀ z : Wl wr, z.w.cell? ⟨bb, ob + k, none⟩ = some (.int .i64 y) := fun z => CB z.w (bl.trans z.bl)
        generalize itF (x + y) = rs at *
        generalize itF (x - y) = rl at *
        generalize itF x = rx at *
        generalize itF (x * n) = rm at *
        refine wl_region wr (Bl.refl _) (by kernel_rfl) (by kernel_rfl) ?_
        repeat (go_big_quiet_step (first
          | (go_at_call_of 15 #[Value.int .i64 x, Value.int .i64 1]; exact wl_call (N1.out _))
          | (go_at_call_of 15 #[Value.int .i64 (x * n), Value.int .i64 1]; exact wl_call (N2.out _))
          | (go_at_call_of 15 #[Value.int .i64 (x + y), Value.int .i64 1]; exact wl_call (N3.out _))
          | (go_at_call_of 15 #[Value.int .i64 (x - y), Value.int .i64 1]; exact wl_call (N4.out _))))
        refine wpQuiet_nil ?_
        intro _ hw'
        obtain ⟨z, hw''⟩ := hw'
        subst hw''
        clear wne zx0 zx1 zx2 zm0 zm1 zm2 za zs0 zs1 zs2 zl0 zl1 zl2 zb wP
        obtain ⟨w3, h3⟩ := z
        dsimp only
        go_wp2
        go_roundw
        case rel => exact ⟨k + 1, by simp, hlt, by rw [HN.out], bl.trans h3⟩
        case measure => simp [intOf]; omega
      · have dk : decide ((k : Int) < (m : Int)) = false := decide_eq_false (by omega)
        go_wp2_with fail
        have wne := wl_ne wr
        obtain ⟨zx0, zx1, zx2⟩ : (∀ z : Wl wr, z.w.cell? ⟨bX, oX + k * 3, none⟩ = some (.int .i64 (itF x).n)) ∧ (∀ z : Wl wr, z.w.cell? ⟨bX, oX + k * 3 + 1, none⟩ = some (.int .i64 (itF x).d)) ∧ (∀ z : Wl wr, z.w.cell? ⟨bX, oX + k * 3 + 2, none⟩ = some (.bool (itF x).bad)) := ⟨fun z => (CX z.w (bl.trans z.bl)).1, fun z => (CX z.w (bl.trans z.bl)).2.1, fun z => (CX z.w (bl.trans z.bl)).2.2⟩
        obtain ⟨zm0, zm1, zm2⟩ : (∀ z : Wl wr, z.w.cell? ⟨bM, oM + k * 3, none⟩ = some (.int .i64 (itF (x * n)).n)) ∧ (∀ z : Wl wr, z.w.cell? ⟨bM, oM + k * 3 + 1, none⟩ = some (.int .i64 (itF (x * n)).d)) ∧ (∀ z : Wl wr, z.w.cell? ⟨bM, oM + k * 3 + 2, none⟩ = some (.bool (itF (x * n)).bad)) := ⟨fun z => (CM z.w (bl.trans z.bl)).1, fun z => (CM z.w (bl.trans z.bl)).2.1, fun z => (CM z.w (bl.trans z.bl)).2.2⟩
        have za : ∀ z : Wl wr, z.w.cell? ⟨ba, oa + k, none⟩ = some (.int .i64 x) := fun z => CA z.w (bl.trans z.bl)
        generalize itF x = rx at *
        generalize itF (x * n) = rm at *
        refine wl_region wr (Bl.refl _) (by kernel_rfl) (by kernel_rfl) ?_
        repeat (go_big_quiet_step (first
          | (go_at_call_of 15 #[Value.int .i64 x, Value.int .i64 1]; exact wl_call (N1.out _))
          | (go_at_call_of 15 #[Value.int .i64 (x * n), Value.int .i64 1]; exact wl_call (N2.out _))))
        refine wpQuiet_nil ?_
        intro _ hw'
        obtain ⟨z, hw''⟩ := hw'
        subst hw''
        clear wne zx0 zx1 zx2 zm0 zm1 zm2 za  wP
        obtain ⟨w3, h3⟩ := z
        dsimp only
        go_wp2
        go_roundw
        case rel => exact ⟨k + 1, by simp, hlt, by rw [HN.out], bl.trans h3⟩
        case measure => simp [intOf]; omega
    · have hk' : k = la := by omega
      rw [show xs.take k = xs by rw [hk', ← La.out, List.take_length]] at hsb ⊢
      have hsl : (xs.length : Int) ≤ 20 := by have := La.out; omega
      have HSM := hideP (show Wh xs.sum from ⟨by omega, by omega⟩)
      have e1 := eql_selfV (itF xs.sum)
      clear hk' hsb hsl
      go_wp2_with fail
      refine (sum_few' (.slice qa la ca) xs _ (HRX.out.later bl) Sa.out.2 Sa.out.1).mono ?_
      rintro e v1 ⟨rfl, g1⟩
      go_wp2_with fail
      refine (new_few HSM.out _).mono ?_
      rintro e v2 ⟨rfl, g2⟩
      generalize itF xs.sum = r at *
      go_wp2_with fail
      refine (AW.out _).mono ?_
      rintro e v3 ⟨rfl, g3⟩
      go_wp2
      go_ret
      exact ⟨rfl, B09.out.trans (bl.trans (g1.trans (g2.trans g3)))⟩
end Go.Proofs.Ytfbioinmgchdcaa

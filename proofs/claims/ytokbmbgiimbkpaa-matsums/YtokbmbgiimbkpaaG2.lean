/- MatSums: sums, differences, what stands beside one another, what is turned, and mirrored, of matrices of whole numbers, are what their numbers say (of 256 numbers from -100 up to 100). Conditions: none (every input). -/
import Derived.Test.YtokbmbgiimbkpaaG1
import Derived.Test.YtokbmbgiimbkpaaVeI
import Derived.ProofKit
import Derived.OpenShut
import Derived.Carry
/- The walk of MatSums. Written by genMs.py. -/
namespace Go.Proofs.Ytokbmbgiimbkpaa
open Go.RowKit
set_option linter.unusedSimpArgs false
set_option linter.unusedVariables false

theorem rqS_all {p : Option Addr} {n cap : Nat} {xs : List Int} {w : World} (h : Rq 1 cI w (.slice p n cap) xs) (hp : 0 < xs.length) : ∃ b o, p = some ⟨b, o, none⟩ ∧ n ≤ cap ∧ ∀ k x, xs[k]? = some x → ∀ u, Bl w u → u.cell? ⟨b, o + k, none⟩ = some (.int .i64 x) := by
  rcases h with ⟨_, _, _, h0, _⟩ | ⟨b, o, cc, e, hc, hlt, HX⟩
  · rw [h0] at hp; simp at hp
  · cases e
    exact ⟨b, o, rfl, hc, fun k x hk u hu => (bl_cell hu _ _ hlt).trans (cellI HX hk (wr := w))⟩
theorem Try.partI (b o n cap lo hi : Nat) (w : World) (h1 : lo ≤ hi) (h2 : hi ≤ n) (h3 : n ≤ cap) (h4 : lo < cap) : (Instr.sliceAt 22 (.slice (some ⟨b, o, none⟩) n cap) (some (.int .i64 lo)) (some (.int .i64 hi)) none).run Try.prog w = .ok (.slice (some ⟨b, o + lo, none⟩) (hi - lo) (cap - lo)) w := by
  have hu : Try.prog.underlying 22 = some (.slice (Try.prog.elem 22)) := by kernel_rfl
  obtain ⟨i0, hi0, hz0, hz1, hz2⟩ := info_parts Try.info_I
  have he : Try.prog.elem 22 = 3 := by kernel_rfl
  rw [run_sliceAt_slice (h := hu), run_slice_lh (ht := hu) (h0 := by omega) (h1 := by omega) (h2 := by omega), he]
  have hcm : ¬ cap = lo := by omega
  have hcm' : ¬ cap ≤ lo := by omega
  simp [sizeOf, typeInfo, hi0, sliced, Result.andThen, hz1, hcm, hcm', Addr.add]
theorem partI_cells {w : World} {R C : Nat} {b o : Nat} {f : Nat → Nat → Int} (CA : ∀ i k, i < R → k < C → ∀ u, Bl w u → u.cell? ⟨b, o + (i * C + k), none⟩ = some (.int .i64 (f i k))) {i a : Nat} (hi : i < R) (ha : a = i * C) : ∀ u, Bl w u → ∀ j v, ((rowM C f i).flatMap cellsI)[j]? = some v → u.cell? ((⟨b, o + a, none⟩ : Addr).add j) = some v := by
  intro u hu j v hv
  rw [flatI_mapS, List.getElem?_map] at hv
  by_cases hj : j < C
  · rw [rowM_get f i hj] at hv
    simp at hv
    subst hv
    have := CA i j hi hj u hu
    by_cases h0 : j = 0
    · subst h0; simpa [Addr.add, ha] using this
    · simpa [Addr.add, ha, h0, Nat.add_assoc] using this
  · rw [List.getElem?_eq_none_iff.2 (by rw [rowM_len]; omega)] at hv
    simp at hv
theorem mirror6_any (R C : Nat) (hsq : R = C) (p : Option Addr) (n cap : Nat) (a : Nat → Nat → Int) (w : World) (h : MxI w R C p n cap a) :
    Calls Try.prog 25 #[mV R C p n cap] w fun e w' => ∃ p' cap', e = .returned (.tuple #[mV R C p' n cap', .bool true]) ∧ MxI w' R C p' n cap' (mirM a) ∧ Bl w w' := by
  subst hsq
  refine (mMirrorF R p n cap _ w h).mono ?_
  rintro e w' ⟨p', cap', rfl, ⟨h1, _, _⟩, hb⟩
  exact ⟨p', cap', rfl, h1, hb⟩
theorem wrapS {x : Int} (h1 : -1000000 ≤ x) (h2 : x ≤ 1000000) : IntKind.i64.wrap x = x := by
  rw [IntKind.wrap_i64]
  omega
theorem rw_cI {w : World} {v : Value} {xs : List Int} (h : Rw 1 cellsI w v xs) : Rq 1 cI w v xs := h.q
theorem own_row {n0 : Nat} {w : World} {v : Value} {xs : List Int} {n : Nat} (h : OwnI n0 w v xs) (hn : xs.length = n) : ∃ p c, v = .slice p n c ∧ ∀ u, Bl w u → Rq 1 cI u (.slice p n c) xs := by
  have hr := Rw.of_own cellsI_len h
  obtain ⟨p, c, hv, _, _⟩ := hr.cut
  subst hn
  exact ⟨p, c, hv, fun u hu => by rw [← hv]; exact rw_cI (hr.later hu)⟩
set_option maxRecDepth 1000000 in
set_option maxHeartbeats 8000000 in
theorem sums_main (pa : Option Addr) (la ca : Nat) (xa : List Int) (pb : Option Addr) (cb : Nat) (xb : List Int) (R C : Nat) (w : World) (ha : Rq 1 cI w (.slice pa la ca) xa) (hb : Rq 1 cI w (.slice pb la cb) xb) (hf : fitB R C la = true) (hla : xa.length = la) (hlb : xb.length = la) (sa : Sml 100 xa) (sb : Sml 100 xb) (Yf : ∀ v xs u, Rq 1 cI u v xs → xs.length ≤ 256 → Sml 100 xs → Calls Try.prog 10 #[v] u fun e w' => e = .returned (.bool true) ∧ w' = u) :
    Calls Try.prog 5 #[.slice pa la ca, .slice pb la cb, .int .i64 R, .int .i64 C] w fun e w' => e = .returned (.bool true) ∧ Bl w w' := by
  have AW := hideP awake6_any
  obtain ⟨R', C', hR', hC', hd, hn⟩ := fitB_nat hf
  obtain rfl : R = R' := by omega
  obtain rfl : C = C' := by omega
  clear hR' hC'
  have hn256 := hd.lt
  rw [← hn] at hn256
  have hC1 := hd.c1
  have hR1 := hd.r1
  have hC16 := hd.c2
  have hR16 := hd.r2
  have h1 : ¬ ((R : Int) < 1) := by omega
  have h2 : ¬ (16 < (R : Int)) := by omega
  have h3 : ¬ ((C : Int) < 1) := by omega
  have h4 : ¬ (16 < (C : Int)) := by omega
  have SA := hideP (show Sm2 100 R C (ofL C xa) from ofL_sml (by omega) sa)
  have SB := hideP (show Sm2 100 R C (ofL C xb) from ofL_sml (by omega) sb)
  have WA := hideP (fun u (hu : Bl w u) => whole6_call R C pa la ca xa u (ha.later hu) hf hla sa)
  have WB := hideP (fun u (hu : Bl w u) => whole6_call R C pb la cb xb u (hb.later hu) hf hlb sb)
  have Y1 := hideP (fun u (hu : Bl w u) => Yf _ xa u (ha.later hu) (by omega) sa)
  have Y2 := hideP (fun u (hu : Bl w u) => Yf _ xb u (hb.later hu) (by omega) sb)
  obtain ⟨ba, oa, rfl, hca, CA⟩ := rqS_all ha (by rw [hla, hn]; exact Nat.mul_pos hd.r1 hd.c1)
  obtain ⟨bb, ob, rfl, hcb, CB⟩ := rqS_all hb (by rw [hlb, hn]; exact Nat.mul_pos hd.r1 hd.c1)
  have HCA := hideP (fun i k (hi : i < R) (hk : k < C) (u : World) (hu : Bl w u) => CA (i * C + k) _ (ofL_get (by omega) hi hk) u hu)
  have HCB := hideP (fun i k (hi : i < R) (hk : k < C) (u : World) (hu : Bl w u) => CB (i * C + k) _ (ofL_get (by omega) hi hk) u hu)
  have HN := hideP hn
  clear CA CB ha hb sa sb hla hlb hn Yf
  generalize ofL C xa = fa at *
  generalize ofL C xb = fb at *
  go_enter Try.func5, Try.ntmps5
  go_wp2_with fail
  refine (Y1.out _ (Bl.refl _)).mono ?_
  rintro e w1 ⟨rfl, hw1⟩
  replace hw1 := hw1.symm
  subst hw1
  go_wp2_with fail
  refine (Y2.out _ (Bl.refl _)).mono ?_
  rintro e w1 ⟨rfl, hw1⟩
  replace hw1 := hw1.symm
  subst hw1
  go_wp2_with fail
  refine (WA.out _ (Bl.refl _)).mono ?_
  rintro e wa ⟨qa, ka, rfl, hx, h5⟩
  have HXa := hideP hx
  clear hx WA Y1 Y2
  have ma := MBox.new wa R C qa la ka 27
  go_wp2_with fail
  refine (WB.out _ (h5.alloc _)).mono ?_
  rintro e wb ⟨qb, kb, rfl, hx, h6⟩
  have HXb := hideP hx
  clear hx WB
  obtain ⟨w0, hw0⟩ : ∃ w0, w0 = wb.alloc (.cells #[.int .i64 R, .int .i64 C, .slice qb la kb] 27) := ⟨_, rfl⟩
  have bb0 : Bl wb w0 := by rw [hw0]; exact (Bl.refl _).alloc _
  have Na : MBox w0 wa.heap.size R C qa la ka := (ma.later h6).later bb0
  have Nb : MBox w0 wb.heap.size R C qb la kb := by rw [hw0]; exact MBox.new wb _ _ _ _ _ _
  have Ya := hideP (HXa.out.later ((((Bl.refl _).alloc _).trans h6).trans bb0))
  have Yb := hideP (HXb.out.later bb0)
  have hB0 : Bl w w0 := ((h5.alloc _).trans h6).trans bb0
  clear ma HXa HXb
  go_wp2_with fail
  rw [← hw0]
  have HW0 := hideP hw0
  clear hw0
  obtain ⟨n0, hn0⟩ : ∃ n0, n0 = w0.heap.size := ⟨_, rfl⟩
  have HN0 := hideP hn0
  clear hn0
  by_cases hsq : R = C
  · have HSQ := hideP hsq
    have hne1 : ((R : Int) == (C : Int)) = true := by simp; omega
    clear hsq
    go_loopw [13, 14, 15, 17, 78] (fun v1 v2 v3 v4 i wr => ∃ (j : Nat) (b3 : Value), b3 = v3 ∧ i = .int .i64 j ∧ j ≤ R ∧ Own4 n0 wr v1 v2 v3 v4 (mk j C (fun i k => fa i k + fb i k)) (mk j C (fun i k => fa i k - fb i k)) (mk j (C + C) (besideM C fa fb)) (mk j C (mirM fa)) ∧ Bl w0 wr) (fun _ _ _ _ i _ => R - (intOf i).toNat)
    case atStart => exact ⟨0, _, rfl, rfl, Nat.zero_le _, Own4.nil _ _, Bl.refl _⟩
    case round =>
      obtain ⟨j, v3, hv3, rfl, hj, O4, hB⟩ := hrel
      subst hv3
      by_cases hlt : j < R
      · go_wp2_with fail
        have HO := hideP O4
        clear O4
        go_loopw [13, 14, 17, 82] (fun v1 v2 v4 i wr => ∃ k : Nat, i = .int .i64 k ∧ k ≤ C ∧ Own4 n0 wr v1 v2 v3 v4 (mk j C (fun i k => fa i k + fb i k) ++ rowM k (fun i k => fa i k + fb i k) j) (mk j C (fun i k => fa i k - fb i k) ++ rowM k (fun i k => fa i k - fb i k) j) (mk j (C + C) (besideM C fa fb)) (mk j C (mirM fa) ++ rowM k (mirM fa) j) ∧ Bl w0 wr) (fun _ _ _ i _ => C - (intOf i).toNat)
        case atStart => exact ⟨0, rfl, Nat.zero_le _, by simpa [rowM] using HO.out, hB⟩
        case round =>
          clear hB HO
          obtain ⟨k, rfl, hk, O4, hB⟩ := hrel
          by_cases hlt2 : k < C
          · obtain ⟨a, q, e1, e2, hq1, hq3, hq5, hq6⟩ := place hd hlt hlt2
            rw [← HN.out] at hq5
            have CX := fun u (hu : Bl w0 u) => HCA.out j k hlt hlt2 u (hB0.trans hu)
            have CY := fun u (hu : Bl w0 u) => HCB.out j k hlt hlt2 u (hB0.trans hu)
            rw [← e2] at CX CY
            have T1 := hideP (show mk j C (fun i k => fa i k + fb i k) ++ rowM (k + 1) (fun i k => fa i k + fb i k) j = (mk j C (fun i k => fa i k + fb i k) ++ rowM k (fun i k => fa i k + fb i k) j) ++ [fa j k + fb j k] by rw [rowM_succ, List.append_assoc])
            have T2 := hideP (show mk j C (fun i k => fa i k - fb i k) ++ rowM (k + 1) (fun i k => fa i k - fb i k) j = (mk j C (fun i k => fa i k - fb i k) ++ rowM k (fun i k => fa i k - fb i k) j) ++ [fa j k - fb j k] by rw [rowM_succ, List.append_assoc])
            have T4 := hideP (show mk j C (mirM fa) ++ rowM (k + 1) (mirM fa) j = (mk j C (mirM fa) ++ rowM k (mirM fa) j) ++ [mirM fa j k] by rw [rowM_succ, List.append_assoc])
            have l4 : (mk j C (mirM fa) ++ rowM k (mirM fa) j).length ≤ 1000 := by have := mk_idx hlt hlt2; have := HN.out; rw [List.length_append, mk_len, rowM_len]; omega
            have l1 : (mk j C (fun i k => fa i k + fb i k) ++ rowM k (fun i k => fa i k + fb i k) j).length ≤ 1000 := by have := mk_idx hlt hlt2; have := HN.out; rw [List.length_append, mk_len, rowM_len]; omega
            have l2 : (mk j C (fun i k => fa i k - fb i k) ++ rowM k (fun i k => fa i k - fb i k) j).length ≤ 1000 := by have := mk_idx hlt hlt2; have := HN.out; rw [List.length_append, mk_len, rowM_len]; omega
            have hx := SA.out j k hlt hlt2
            have hy := SB.out j k hlt hlt2
            generalize mk j C (fun i k => fa i k + fb i k) ++ rowM k (fun i k => fa i k + fb i k) j = A1 at *
            generalize mk j C (fun i k => fa i k - fb i k) ++ rowM k (fun i k => fa i k - fb i k) j = A2 at *
            generalize mk j (C + C) (besideM C fa fb) = A3 at *
            generalize mk j C (mirM fa) ++ rowM k (mirM fa) j = A4 at *
            generalize hgx : fa j k = x at CX T1 T2 hx
            generalize hgy : fb j k = y at CY T1 T2 hy
            clear hgx hgy e1 e2
            have HO := hideP O4
            clear O4
            have wka := wrapS (x := (a : Int)) (by omega) (by omega)
            have wkq := wrapS (x := (q : Int)) (by omega) (by omega)
            have wkp := wrapS (x := x + y) (by omega) (by omega)
            have wkm := wrapS (x := x - y) (by omega) (by omega)
            have KP := hideP (fun (u : World) (hu : Bl w0 u) => (show u.cell? ⟨ba, oa + q, none⟩ = some (.int .i64 x) ∧ u.cell? ⟨bb, ob + q, none⟩ = some (.int .i64 y) ∧ Bl w0 u from ⟨CX u hu, CY u hu, hu⟩))
            clear CX CY
            go_wp2_with fail
            go_region_held3 (fun w' => w'.cell? ⟨ba, oa + q, none⟩ = some (.int .i64 x) ∧ w'.cell? ⟨bb, ob + q, none⟩ = some (.int .i64 y) ∧ Bl w0 w') (exact KP.out _ (by repeat (first | exact Bl.refl _ | assumption | apply Bl.drew | apply Bl.alloc | (refine Bl.put3 ?_ (by omega) _ _ _) | (refine Bl.trans ?_ (by assumption)))))
              (first
                | (rw [if_pos (by rfl)]; refine oper_app (.tmp 85) (.tmp 103) rfl rfl (HO.out.later (by repeat (first | exact Bl.refl _ | assumption | apply Bl.drew | apply Bl.alloc | (refine Bl.put3 ?_ (by omega) _ _ _) | (refine Bl.trans ?_ (by assumption))))) ⟨_, 0, none⟩ 1 1 [x + y] rfl rfl (oneI_at (by simp [go_sem])) (by simp; omega) (Nat.le_trans (by rw [HN0.out]; exact Nat.le_refl _) ((show Bl w0 _ from (by repeat (first | exact Bl.refl _ | assumption | apply Bl.drew | apply Bl.alloc | (refine Bl.put3 ?_ (by omega) _ _ _) | (refine Bl.trans ?_ (by assumption))))).size)) ?_; intro v1' u1 B1; have k1 : Bl w0 u1 := B1.bl (by repeat (first | exact Bl.refl _ | assumption | apply Bl.drew | apply Bl.alloc | (refine Bl.put3 ?_ (by omega) _ _ _) | (refine Bl.trans ?_ (by assumption)))) (by rw [HN0.out]; exact Nat.le_refl _); have HB1 := hideP B1; clear B1)
                | (rw [if_pos (by rfl)]; refine oper_app (.tmp 105) (.tmp 123) rfl rfl (HB1.out.1.to2.later (by repeat (first | exact Bl.refl _ | assumption | apply Bl.drew | apply Bl.alloc | (refine Bl.put3 ?_ (by omega) _ _ _) | (refine Bl.trans ?_ (by assumption))))) ⟨_, 0, none⟩ 1 1 [x - y] rfl rfl (oneI_at (by first | (simp [go_sem]; done) | exact (HB1.out.cell HO.out.o1 (by simp) (by simp <;> omega) 0).trans (by simp [go_sem]))) (by simp; omega) (Nat.le_trans (by rw [HN0.out]; exact Nat.le_refl _) ((show Bl w0 _ from (by repeat (first | exact Bl.refl _ | assumption | apply Bl.drew | apply Bl.alloc | (refine Bl.put3 ?_ (by omega) _ _ _) | (refine Bl.trans ?_ (by assumption))))).size)) ?_; intro v2' u2 B2; have k2 : Bl w0 u2 := B2.bl (by repeat (first | exact Bl.refl _ | assumption | apply Bl.drew | apply Bl.alloc | (refine Bl.put3 ?_ (by omega) _ _ _) | (refine Bl.trans ?_ (by assumption)))) (by rw [HN0.out]; exact Nat.le_refl _); have O5 := hideP B2.1.to2; clear B2))
            all_goals
              rename_i hh
              clear hh wka wkq wkp wkm hq1 hq3 hq5 hq6
              rcases Nat.lt_trichotomy j k with hjk | hjk | hjk
              · have q1 : (j : Int) < (k : Int) := by omega
                have q2 : ¬ (k : Int) < (j : Int) := by omega
                obtain ⟨a', q', e1, e2, hp1, hp3, hp5, hp6⟩ := place hd (show k < R by have := HSQ.out; omega) (show j < C by have := HSQ.out; omega)
                rw [← HN.out] at hp5
                have cz := HCA.out k j (by have := HSQ.out; omega) (by have := HSQ.out; omega) u2 (hB0.trans k2)
                rw [← e2] at cz
                have ez : mirM fa j k = fa k j := by unfold mirM; rw [show max j k = k by omega, show min j k = j by omega]
                rw [ez] at T4
                clear e1 e2 ez
                generalize fa k j = z at cz T4
                go_wp2_with (at_builtin; refine list_app rfl (.tmp 128) (.tmp 141) rfl rfl (O5.out.to4.later (by repeat (first | exact Bl.refl _ | assumption | apply Bl.drew | apply Bl.alloc | (refine Bl.put3 ?_ (by omega) _ _ _) | (refine Bl.trans ?_ (by assumption))))) ⟨_, 0, none⟩ 1 1 [z] rfl rfl (oneI_at (by simp [go_sem])) (by simp; omega) (Nat.le_trans (by rw [HN0.out]; exact Nat.le_refl _) ((show Bl w0 _ from (by repeat (first | exact Bl.refl _ | assumption | apply Bl.drew | apply Bl.alloc | (refine Bl.put3 ?_ (by omega) _ _ _) | (refine Bl.trans ?_ (by assumption))))).size)) ?_; intro v4' u3 B3)
                have k3 : Bl w0 u3 := B3.bl (by repeat (first | exact Bl.refl _ | assumption | apply Bl.drew | apply Bl.alloc | (refine Bl.put3 ?_ (by omega) _ _ _) | (refine Bl.trans ?_ (by assumption)))) (by rw [HN0.out]; exact Nat.le_refl _)
                have O6 := hideP B3.1.to4
                clear B3 cz
                go_wp2
                go_roundw
                case rel => exact ⟨k + 1, by simp, hlt2, by rw [T1.out, T2.out, T4.out]; exact O6.out, k3⟩
                case measure => simp [intOf]; omega
              · obtain rfl : j = k := hjk
                obtain ⟨a', q', e1, e2, hp1, hp3, hp5, hp6⟩ := place hd (show j < R by have := HSQ.out; omega) (show j < C by have := HSQ.out; omega)
                rw [← HN.out] at hp5
                have cz := HCA.out j j (by have := HSQ.out; omega) (by have := HSQ.out; omega) u2 (hB0.trans k2)
                rw [← e2] at cz
                have ez : mirM fa j j = fa j j := by unfold mirM; rw [Nat.max_self, Nat.min_self]
                rw [ez] at T4
                clear e1 e2 ez
                generalize fa j j = z at cz T4
                go_wp2_with (at_builtin; refine list_app rfl (.tmp 128) (.tmp 141) rfl rfl (O5.out.to4.later (by repeat (first | exact Bl.refl _ | assumption | apply Bl.drew | apply Bl.alloc | (refine Bl.put3 ?_ (by omega) _ _ _) | (refine Bl.trans ?_ (by assumption))))) ⟨_, 0, none⟩ 1 1 [z] rfl rfl (oneI_at (by simp [go_sem])) (by simp; omega) (Nat.le_trans (by rw [HN0.out]; exact Nat.le_refl _) ((show Bl w0 _ from (by repeat (first | exact Bl.refl _ | assumption | apply Bl.drew | apply Bl.alloc | (refine Bl.put3 ?_ (by omega) _ _ _) | (refine Bl.trans ?_ (by assumption))))).size)) ?_; intro v4' u3 B3)
                have k3 : Bl w0 u3 := B3.bl (by repeat (first | exact Bl.refl _ | assumption | apply Bl.drew | apply Bl.alloc | (refine Bl.put3 ?_ (by omega) _ _ _) | (refine Bl.trans ?_ (by assumption)))) (by rw [HN0.out]; exact Nat.le_refl _)
                have O6 := hideP B3.1.to4
                clear B3 cz
                go_wp2
                go_roundw
                case rel => exact ⟨j + 1, by simp, hlt2, by rw [T1.out, T2.out, T4.out]; exact O6.out, k3⟩
                case measure => simp [intOf]; omega
              · have q1 : (k : Int) < (j : Int) := by omega
                have q2 : ¬ (j : Int) < (k : Int) := by omega
                obtain ⟨a', q', e1, e2, hp1, hp3, hp5, hp6⟩ := place hd (show j < R by have := HSQ.out; omega) (show k < C by have := HSQ.out; omega)
                rw [← HN.out] at hp5
                have cz := HCA.out j k (by have := HSQ.out; omega) (by have := HSQ.out; omega) u2 (hB0.trans k2)
                rw [← e2] at cz
                have ez : mirM fa j k = fa j k := by unfold mirM; rw [show max j k = j by omega, show min j k = k by omega]
                rw [ez] at T4
                clear e1 e2 ez
                generalize fa j k = z at cz T4
                go_wp2_with (at_builtin; refine list_app rfl (.tmp 128) (.tmp 141) rfl rfl (O5.out.to4.later (by repeat (first | exact Bl.refl _ | assumption | apply Bl.drew | apply Bl.alloc | (refine Bl.put3 ?_ (by omega) _ _ _) | (refine Bl.trans ?_ (by assumption))))) ⟨_, 0, none⟩ 1 1 [z] rfl rfl (oneI_at (by simp [go_sem])) (by simp; omega) (Nat.le_trans (by rw [HN0.out]; exact Nat.le_refl _) ((show Bl w0 _ from (by repeat (first | exact Bl.refl _ | assumption | apply Bl.drew | apply Bl.alloc | (refine Bl.put3 ?_ (by omega) _ _ _) | (refine Bl.trans ?_ (by assumption))))).size)) ?_; intro v4' u3 B3)
                have k3 : Bl w0 u3 := B3.bl (by repeat (first | exact Bl.refl _ | assumption | apply Bl.drew | apply Bl.alloc | (refine Bl.put3 ?_ (by omega) _ _ _) | (refine Bl.trans ?_ (by assumption)))) (by rw [HN0.out]; exact Nat.le_refl _)
                have O6 := hideP B3.1.to4
                clear B3 cz
                go_wp2
                go_roundw
                case rel => exact ⟨k + 1, by simp, hlt2, by rw [T1.out, T2.out, T4.out]; exact O6.out, k3⟩
                case measure => simp [intOf]; omega
          · have hkC : C = k := by omega
            clear hk hlt2
            subst hkC
            obtain ⟨a, e, e1, e2, hq1, hq3, hq5, hq6, hq7⟩ := places hd hlt
            rw [← HN.out] at hq5
            have slA := fun u => Try.partI ba oa la ca a e u (by omega) (by omega) hca (by omega)
            have slB := fun u => Try.partI bb ob la cb a e u (by omega) (by omega) hcb (by omega)
            rw [show e - a = C by omega] at slA slB
            have wka := wrapS (x := (a : Int)) (by omega) (by omega)
            have wke := wrapS (x := (e : Int)) (by omega) (by omega)
            have wkj := wrapS (x := (j : Int) + 1) (by omega) (by omega)
            have PA := hideP (partI_cells (w := w0) (fun i k hi hk u hu => HCA.out i k hi hk u (hB0.trans hu)) hlt e1)
            have PB := hideP (partI_cells (w := w0) (fun i k hi hk u hu => HCB.out i k hi hk u (hB0.trans hu)) hlt e1)
            have T1 := hideP (mk_succ j C (fun i k => fa i k + fb i k))
            have T2 := hideP (mk_succ j C (fun i k => fa i k - fb i k))
            have T3 := hideP (show mk (j + 1) (C + C) (besideM C fa fb) = (mk j (C + C) (besideM C fa fb) ++ rowM C fa j) ++ rowM C fb j by rw [mk_succ, rowM_beside, List.append_assoc])
            have T4 := hideP (mk_succ j C (mirM fa))
            have l3 : (mk j (C + C) (besideM C fa fb)).length ≤ 1000 := by rw [mk_len]; exact Nat.le_trans (Nat.mul_le_mul (show j ≤ 16 by omega) (show C + C ≤ 32 by omega)) (by decide)
            have lA : (rowM C fa j).length = C := rowM_len _ _ _
            have lB : (rowM C fb j).length = C := rowM_len _ _ _
            have HO := hideP O4
            clear O4 e1 e2
            generalize rowM C fa j = rA at *
            generalize rowM C fb j = rB at *
            generalize mk j (C + C) (besideM C fa fb) = A3 at *
            go_wp2_with fail
            go_region_held3 (fun w' => Bl w0 w') (exact (by repeat (first | exact Bl.refl _ | assumption | apply Bl.drew | apply Bl.alloc | (refine Bl.put3 ?_ (by omega) _ _ _) | (refine Bl.trans ?_ (by assumption)))))
              (first
                | (rw [if_pos (by rfl)]; refine oper_app (.tmp 144) (.tmp 153) rfl rfl (HO.out.to3.later (by repeat (first | exact Bl.refl _ | assumption | apply Bl.drew | apply Bl.alloc | (refine Bl.put3 ?_ (by omega) _ _ _) | (refine Bl.trans ?_ (by assumption))))) _ C (ca - a) rA rfl lA (PA.out _ (by repeat (first | exact Bl.refl _ | assumption | apply Bl.drew | apply Bl.alloc | (refine Bl.put3 ?_ (by omega) _ _ _) | (refine Bl.trans ?_ (by assumption))))) (by omega) (Nat.le_trans (by rw [HN0.out]; exact Nat.le_refl _) ((show Bl w0 _ from (by repeat (first | exact Bl.refl _ | assumption | apply Bl.drew | apply Bl.alloc | (refine Bl.put3 ?_ (by omega) _ _ _) | (refine Bl.trans ?_ (by assumption))))).size)) ?_; intro v3' u1 B1; have k1 : Bl w0 u1 := B1.bl (by repeat (first | exact Bl.refl _ | assumption | apply Bl.drew | apply Bl.alloc | (refine Bl.put3 ?_ (by omega) _ _ _) | (refine Bl.trans ?_ (by assumption)))) (by rw [HN0.out]; exact Nat.le_refl _); have HB1 := hideP B1.1; clear B1)
                | (rw [if_pos (by rfl)]; refine oper_app (.tmp 154) (.tmp 163) rfl rfl (HB1.out.later (by repeat (first | exact Bl.refl _ | assumption | apply Bl.drew | apply Bl.alloc | (refine Bl.put3 ?_ (by omega) _ _ _) | (refine Bl.trans ?_ (by assumption))))) _ C (cb - a) rB rfl lB (PB.out _ (by repeat (first | exact Bl.refl _ | assumption | apply Bl.drew | apply Bl.alloc | (refine Bl.put3 ?_ (by omega) _ _ _) | (refine Bl.trans ?_ (by assumption))))) (by rw [List.length_append]; omega) (Nat.le_trans (by rw [HN0.out]; exact Nat.le_refl _) ((show Bl w0 _ from (by repeat (first | exact Bl.refl _ | assumption | apply Bl.drew | apply Bl.alloc | (refine Bl.put3 ?_ (by omega) _ _ _) | (refine Bl.trans ?_ (by assumption))))).size)) ?_; intro v3'' u2 B2; have k2 : Bl w0 u2 := B2.bl (by repeat (first | exact Bl.refl _ | assumption | apply Bl.drew | apply Bl.alloc | (refine Bl.put3 ?_ (by omega) _ _ _) | (refine Bl.trans ?_ (by assumption)))) (by rw [HN0.out]; exact Nat.le_refl _); have O5 := hideP B2.1.to3; clear B2))
            rename_i hh
            clear hh slA slB wka wke wkj
            go_wp2
            go_roundw
            case rel => exact ⟨j + 1, _, rfl, by simp, hlt, by rw [T1.out, T2.out, T3.out, T4.out]; exact O5.out, k2⟩
            case measure => simp [intOf]; omega
      · have hjR : R = j := by omega
        clear hj hlt
        subst hjR
        have HO := hideP O4
        clear O4
        obtain ⟨w1, hw1⟩ : ∃ w1, w1 = wr := ⟨_, rfl⟩
        subst hw1
        obtain ⟨n1, hn1⟩ : ∃ n1, n1 = w1.heap.size := ⟨_, rfl⟩
        have HN1 := hideP hn1
        clear hn1
        go_wp2_with fail
        go_loopw [16, 167] (fun v i wr => ∃ k : Nat, i = .int .i64 k ∧ k ≤ C ∧ Own4 n1 wr v (.slice none 0 0) (.slice none 0 0) (.slice none 0 0) (mk k R (fun k i => fa i k)) [] [] [] ∧ Bl w1 wr) (fun _ i _ => C - (intOf i).toNat)
        case atStart => exact ⟨0, rfl, Nat.zero_le _, Own4.nil _ _, Bl.refl _⟩
        case round =>
          obtain ⟨k, rfl, hk, O4, hb1⟩ := hrel
          by_cases hlt : k < C
          · go_wp2_with fail
            have HP := hideP O4
            clear O4
            go_loopw [16, 171] (fun v i wr => ∃ j : Nat, i = .int .i64 j ∧ j ≤ R ∧ Own4 n1 wr v (.slice none 0 0) (.slice none 0 0) (.slice none 0 0) (mk k R (fun k i => fa i k) ++ rowM j (fun k i => fa i k) k) [] [] [] ∧ Bl w1 wr) (fun _ i _ => R - (intOf i).toNat)
            case atStart => exact ⟨0, rfl, Nat.zero_le _, by simpa [rowM] using HP.out, hb1⟩
            case round =>
              clear hb1 HP
              obtain ⟨j, rfl, hj, O4, hb1⟩ := hrel
              by_cases hlt2 : j < R
              · obtain ⟨a, q, e1, e2, hq1, hq3, hq5, hq6⟩ := place hd hlt2 hlt
                rw [← HN.out] at hq5
                have cz := HCA.out j k hlt2 hlt wr (hB0.trans (hB.trans hb1))
                rw [← e2] at cz
                have T1 := hideP (show mk k R (fun k i => fa i k) ++ rowM (j + 1) (fun k i => fa i k) k = (mk k R (fun k i => fa i k) ++ rowM j (fun k i => fa i k) k) ++ [fa j k] by rw [rowM_succ, List.append_assoc])
                have l1 : (mk k R (fun k i => fa i k) ++ rowM j (fun k i => fa i k) k).length ≤ 1000 := by have := mk_idx hlt hlt2; have := HN.out; have := Nat.mul_comm R C; rw [List.length_append, mk_len, rowM_len]; omega
                generalize mk k R (fun k i => fa i k) ++ rowM j (fun k i => fa i k) k = A1 at *
                generalize hgz : fa j k = z at cz T1
                clear hgz e1 e2
                have HP := hideP O4
                clear O4
                go_wp2_with (at_builtin; refine list_app rfl (.tmp 174) (.tmp 183) rfl rfl (HP.out.later (by repeat (first | exact Bl.refl _ | assumption | apply Bl.drew | apply Bl.alloc | (refine Bl.put3 ?_ (by omega) _ _ _) | (refine Bl.trans ?_ (by assumption))))) ⟨_, 0, none⟩ 1 1 [z] rfl rfl (oneI_at (by simp [go_sem])) (by simp; omega) (Nat.le_trans (by rw [HN1.out]; exact Nat.le_refl _) ((show Bl w1 _ from (by repeat (first | exact Bl.refl _ | assumption | apply Bl.drew | apply Bl.alloc | (refine Bl.put3 ?_ (by omega) _ _ _) | (refine Bl.trans ?_ (by assumption))))).size)) ?_; intro v' u3 B3)
                have k3 : Bl w1 u3 := B3.bl (by repeat (first | exact Bl.refl _ | assumption | apply Bl.drew | apply Bl.alloc | (refine Bl.put3 ?_ (by omega) _ _ _) | (refine Bl.trans ?_ (by assumption)))) (by rw [HN1.out]; exact Nat.le_refl _)
                have O6 := hideP B3.1
                clear B3 cz
                go_wp2
                go_roundw
                case rel => exact ⟨j + 1, by simp, hlt2, by rw [T1.out]; exact O6.out, k3⟩
                case measure => simp [intOf]; omega
              · have hjR : R = j := by omega
                clear hj hlt2
                subst hjR
                have T1 := hideP (mk_succ k R (fun k i => fa i k))
                have HP := hideP O4
                clear O4
                go_wp2_with fail
                go_roundw
                case rel => exact ⟨k + 1, by simp, hlt, by rw [T1.out]; exact HP.out, hb1⟩
                case measure => simp [intOf]; omega
          · have hkC : C = k := by omega
            clear hk hlt
            subst hkC
            have hRC : R * C = la := HN.out.symm
            have hCR : C * R = la := by rw [Nat.mul_comm]; exact hRC
            have O5 := O4.o1
            have q1 := HO.out.o1
            have q2 := HO.out.o2
            have q3 := HO.out.o3
            have q4 := HO.out.o4
            clear HO O4
            obtain ⟨E, hE⟩ : ∃ E, E = C + C := ⟨_, rfl⟩
            obtain ⟨N, hNN⟩ : ∃ N, N = R * E := ⟨_, rfl⟩
            rw [← hE] at q3
            obtain ⟨p1, c1, rfl, R1⟩ := own_row q1 (n := la) (by rw [mk_len]; exact hRC)
            obtain ⟨p2, c2, rfl, R2⟩ := own_row q2 (n := la) (by rw [mk_len]; exact hRC)
            obtain ⟨p3, c3, rfl, R3⟩ := own_row q3 (n := N) (by rw [mk_len]; exact hNN.symm)
            obtain ⟨p4, c4, rfl, R4⟩ := own_row q4 (n := la) (by rw [mk_len]; exact hRC)
            obtain ⟨p5, c5, rfl, R5⟩ := own_row O5 (n := la) (by rw [mk_len]; exact hCR)
            obtain ⟨V, hV⟩ : ∃ V, V = wr := ⟨_, rfl⟩
            subst hV
            have b0V : Bl w0 V := hB.trans hb1
            have Na := Na.later b0V
            have Nb := Nb.later b0V
            have Xa := hideP (Ya.out.later b0V)
            have Xb := hideP (Yb.out.later b0V)
            have R1 := hideP (fun u (hu : Bl V u) => R1 u (hb1.trans hu))
            have R2 := hideP (fun u (hu : Bl V u) => R2 u (hb1.trans hu))
            have R3 := hideP (fun u (hu : Bl V u) => R3 u (hb1.trans hu))
            have R5 := hideP R5
            have R4 := hideP (fun u (hu : Bl V u) => R4 u (hb1.trans hu))
            have hBV : Bl w V := hB0.trans b0V
            have h2C : 2 * (C : Int) = (E : Int) := by omega
            have HE := hideP hE
            have HNN := hideP hNN
            have HRC := hideP (And.intro hRC hCR)
            clear q1 q2 q3 q4 O5 hE hNN hRC hCR Ya Yb HCA HCB hB hb1
            obtain ⟨x0, x1, x2, _, _, _, xl⟩ := id Na
            obtain ⟨y0, y1, y2, _, _, _, yl⟩ := id Nb
            go_wp2_with fail
            refine (add6_any (A := 100) (B := 100) R C qa qb la ka kb _ _ _ Xa.out Xb.out SA.out SB.out (by omega) (by omega)).mono ?_
            rintro e u1 ⟨t1, d1, rfl, hx, g1⟩
            have G1 := hideP hx
            clear hx x0 x1 x2 y0 y1 y2
            have M1 := MBox.new u1 R C t1 la d1 27
            obtain ⟨x0, x1, x2, _, _, _, xl1⟩ := Na.later g1
            obtain ⟨y0, y1, y2, _, _, _, yl1⟩ := Nb.later g1
            go_wp2_with fail
            refine (sub6_any (A := 100) (B := 100) R C qa qb la ka kb _ _ _ (Xa.out.later (g1.alloc _)) (Xb.out.later (g1.alloc _)) SA.out SB.out (by omega) (by omega)).mono ?_
            rintro e u2 ⟨t2, d2, rfl, hx, g2⟩
            have G2 := hideP hx
            clear hx x0 x1 x2 y0 y1 y2
            have M2 := MBox.new u2 R C t2 la d2 27
            have b2 : Bl V u2 := (g1.alloc _).trans g2
            obtain ⟨x0, x1, x2, _, _, _, xl2⟩ := Na.later b2
            obtain ⟨y0, y1, y2, _, _, _, yl2⟩ := Nb.later b2
            by_cases hw16 : E ≤ 16
            · have hw' : (E : Int) ≤ 16 := by omega
              go_wp2_with fail
              refine (beside6_any R C C qa la ka _ qb la kb _ E N _ (Xa.out.later (b2.alloc _)) (Xb.out.later (b2.alloc _)) HE.out hw16 HNN.out).mono ?_
              rintro e u3 ⟨t3, d3, rfl, hx, g3⟩
              have G3 := hideP hx
              clear hx x0 x1 x2 y0 y1 y2
              have M3 := MBox.new u3 R E t3 N d3 27
              have b3 : Bl V u3 := (b2.alloc _).trans g3
              obtain ⟨x0, x1, x2, _, _, _, xl3⟩ := Na.later b3
              go_wp2_with fail
              refine (mirror6_any R C HSQ.out qa la ka _ _ (Xa.out.later (b3.alloc _))).mono ?_
              rintro e u4 ⟨t4, d4, rfl, hx, g4⟩
              have G4 := hideP hx
              clear hx x0 x1 x2
              obtain ⟨u5, hu5⟩ : ∃ u5, u5 = u4.alloc (.cells #[.int .i64 R, .int .i64 C, .slice t4 la d4] 27) := ⟨_, rfl⟩
              have M4 : MBox u5 u4.heap.size R C t4 la d4 := by rw [hu5]; exact MBox.new u4 _ _ _ _ _ _
              have b45 : Bl u4 u5 := by rw [hu5]; exact (Bl.refl _).alloc _
              have b4 : Bl V u5 := ((b3.alloc _).trans g4).trans b45
              have z35 : Bl u3 u5 := (((Bl.refl _).alloc _).trans g4).trans b45
              have z25 : Bl u2 u5 := (((Bl.refl _).alloc _).trans g3).trans z35
              have z15 : Bl u1 u5 := (((Bl.refl _).alloc _).trans g2).trans z25
              have z24 : Bl u2 u4 := (((Bl.refl _).alloc _).trans g3).trans (((Bl.refl _).alloc _).trans g4)
              have M1 := M1.later (g2.trans z24)
              have M2 := M2.later (g3.trans z35)
              have M3 := M3.later (g4.trans b45)
              have Na5 := Na.later b4
              have wh : ∀ (B : Int) (f : Nat → Nat → Int) (X Y : Nat), B ≤ 100000 → Sm2 B X Y f → ∀ z ∈ mk X Y f, Wh z := fun B f X Y hB hS z hz => by have := mk_sml hS z hz; exact ⟨by omega, by omega⟩
              obtain ⟨x0, x1, x2, _, _, _, xl5⟩ := id M1
              have HU5 := hideP hu5
              clear hu5
              go_wp2_with fail
              rw [← HU5.out]
              refine (same6_any R C t1 la d1 p1 c1 (mk R C (fun i k => fa i k + fb i k)) _ (by rw [mk_map]; exact (G1.out.later z15).2.2) (R1.out _ b4) (by rw [mk_len]; exact HRC.out.1) (wh 200 _ _ _ (by omega) (sm2_add SA.out SB.out)) (by omega)).mono ?_
              rintro e u6 ⟨rfl, hu6⟩
              clear x0 x1 x2
              have w6 : Bl u5 u6 := hu6
              obtain ⟨x0, x1, x2, _, _, _, xl6⟩ := M2.later w6
              go_wp2_with fail
              refine (same6_any R C t2 la d2 p2 c2 (mk R C (fun i k => fa i k - fb i k)) _ (by rw [mk_map]; exact (G2.out.later (z25.trans w6)).2.2) (R2.out _ (b4.trans w6)) (by rw [mk_len]; exact HRC.out.1) (wh 200 _ _ _ (by omega) (fun i k hi hk => by have e1 := SA.out i k hi hk; have e2 := SB.out i k hi hk; exact ⟨by omega, by omega⟩)) (by omega)).mono ?_
              rintro e u7 ⟨rfl, hu7⟩
              clear x0 x1 x2
              have w7 : Bl u5 u7 := w6.trans hu7
              obtain ⟨x0, x1, x2, _, _, _, xl7⟩ := M3.later w7
              go_wp2_with fail
              refine (same6_any R E t3 N d3 p3 c3 (mk R E (besideM C fa fb)) _ (by rw [mk_map]; exact (G3.out.later (z35.trans w7)).2.2) (R3.out _ (b4.trans w7)) (by rw [mk_len]; exact HNN.out.symm) (wh 100 _ _ _ (by omega) (by rw [HE.out]; exact sm2_beside SA.out SB.out)) (by have h1 := Nat.mul_le_mul hR16 hw16; have := HNN.out; omega)).mono ?_
              rintro e u8 ⟨rfl, hu8⟩
              clear x0 x1 x2
              have w8 : Bl u5 u8 := w7.trans hu8
              obtain ⟨x0, x1, x2, _, _, _, xl8⟩ := M4.later w8
              go_wp2_with fail
              refine (same6_any R C t4 la d4 p4 c4 (mk R C (mirM fa)) _ (by rw [mk_map]; exact (G4.out.later (b45.trans w8)).2.2) (R4.out _ (b4.trans w8)) (by rw [mk_len]; exact HRC.out.1) (wh 100 _ _ _ (by omega) (fun i k hi hk => SA.out _ _ (by have := HSQ.out; omega) (by have := HSQ.out; omega))) (by omega)).mono ?_
              rintro e u9 ⟨rfl, hu9⟩
              clear x0 x1 x2
              have w9 : Bl u5 u9 := w8.trans hu9
              obtain ⟨x0, x1, x2, _, _, _, xl9⟩ := Na5.later w9
              go_wp2_with fail
              refine (mTurnF R C qa la ka _ _ (Xa.out.later (b4.trans w9))).mono ?_
              rintro e ua ⟨t6, d6, rfl, ⟨hx, _, _⟩, ga⟩
              have G6 := hideP hx
              clear hx x0 x1 x2
              go_wp2_with fail
              refine (same6_any C R t6 la d6 p5 c5 (mk C R (fun k i => fa i k)) _ (by rw [mk_map]; exact (G6.out).2.2) (R5.out _ ((b4.trans w9).trans ga)) (by rw [mk_len]; exact HRC.out.2) (wh 100 _ _ _ (by omega) (fun i k hi hk => SA.out k i hk hi)) (by omega)).mono ?_
              rintro e ub ⟨rfl, hub⟩
              have hB : Bl w ub := (((hBV.trans b4).trans w9).trans ga).trans hub
              go_wp2_with fail
              refine (AW.out _).mono ?_
              rintro e w9 ⟨rfl, h9⟩
              go_wp2
              go_ret
              exact ⟨rfl, hB.trans h9⟩
            · have hw' : ¬ (E : Int) ≤ 16 := by omega
              go_wp2_with fail
              refine (mBesideF_wide R C qa la ka qb la kb _ hf hf (by have := HE.out; omega)).mono ?_
              rintro e u3 ⟨rfl, g3⟩
              clear x0 x1 x2 y0 y1 y2
              have M3 := MBox.new u3 0 0 none 0 0 27
              have b3 : Bl V u3 := (b2.alloc _).trans g3
              obtain ⟨x0, x1, x2, _, _, _, xl3⟩ := Na.later b3
              go_wp2_with fail
              refine (mirror6_any R C HSQ.out qa la ka _ _ (Xa.out.later (b3.alloc _))).mono ?_
              rintro e u4 ⟨t4, d4, rfl, hx, g4⟩
              have G4 := hideP hx
              clear hx x0 x1 x2
              obtain ⟨u5, hu5⟩ : ∃ u5, u5 = u4.alloc (.cells #[.int .i64 R, .int .i64 C, .slice t4 la d4] 27) := ⟨_, rfl⟩
              have M4 : MBox u5 u4.heap.size R C t4 la d4 := by rw [hu5]; exact MBox.new u4 _ _ _ _ _ _
              have b45 : Bl u4 u5 := by rw [hu5]; exact (Bl.refl _).alloc _
              have b4 : Bl V u5 := ((b3.alloc _).trans g4).trans b45
              have z35 : Bl u3 u5 := (((Bl.refl _).alloc _).trans g4).trans b45
              have z25 : Bl u2 u5 := (((Bl.refl _).alloc _).trans g3).trans z35
              have z15 : Bl u1 u5 := (((Bl.refl _).alloc _).trans g2).trans z25
              have z24 : Bl u2 u4 := (((Bl.refl _).alloc _).trans g3).trans (((Bl.refl _).alloc _).trans g4)
              have M1 := M1.later (g2.trans z24)
              have M2 := M2.later (g3.trans z35)
              have M3 := M3.later (g4.trans b45)
              have Na5 := Na.later b4
              have wh : ∀ (B : Int) (f : Nat → Nat → Int) (X Y : Nat), B ≤ 100000 → Sm2 B X Y f → ∀ z ∈ mk X Y f, Wh z := fun B f X Y hB hS z hz => by have := mk_sml hS z hz; exact ⟨by omega, by omega⟩
              obtain ⟨x0, x1, x2, _, _, _, xl5⟩ := id M1
              have HU5 := hideP hu5
              clear hu5
              go_wp2_with fail
              rw [← HU5.out]
              refine (same6_any R C t1 la d1 p1 c1 (mk R C (fun i k => fa i k + fb i k)) _ (by rw [mk_map]; exact (G1.out.later z15).2.2) (R1.out _ b4) (by rw [mk_len]; exact HRC.out.1) (wh 200 _ _ _ (by omega) (sm2_add SA.out SB.out)) (by omega)).mono ?_
              rintro e u6 ⟨rfl, hu6⟩
              clear x0 x1 x2
              have w6 : Bl u5 u6 := hu6
              obtain ⟨x0, x1, x2, _, _, _, xl6⟩ := M2.later w6
              go_wp2_with fail
              refine (same6_any R C t2 la d2 p2 c2 (mk R C (fun i k => fa i k - fb i k)) _ (by rw [mk_map]; exact (G2.out.later (z25.trans w6)).2.2) (R2.out _ (b4.trans w6)) (by rw [mk_len]; exact HRC.out.1) (wh 200 _ _ _ (by omega) (fun i k hi hk => by have e1 := SA.out i k hi hk; have e2 := SB.out i k hi hk; exact ⟨by omega, by omega⟩)) (by omega)).mono ?_
              rintro e u7 ⟨rfl, hu7⟩
              clear x0 x1 x2
              have w7 : Bl u5 u7 := w6.trans hu7
              obtain ⟨x0, x1, x2, _, _, _, xl8⟩ := M4.later w7
              go_wp2_with fail
              refine (same6_any R C t4 la d4 p4 c4 (mk R C (mirM fa)) _ (by rw [mk_map]; exact (G4.out.later (b45.trans w7)).2.2) (R4.out _ (b4.trans w7)) (by rw [mk_len]; exact HRC.out.1) (wh 100 _ _ _ (by omega) (fun i k hi hk => SA.out _ _ (by have := HSQ.out; omega) (by have := HSQ.out; omega))) (by omega)).mono ?_
              rintro e u9 ⟨rfl, hu9⟩
              clear x0 x1 x2
              have w9 : Bl u5 u9 := w7.trans hu9
              obtain ⟨x0, x1, x2, _, _, _, xl9⟩ := Na5.later w9
              go_wp2_with fail
              refine (mTurnF R C qa la ka _ _ (Xa.out.later (b4.trans w9))).mono ?_
              rintro e ua ⟨t6, d6, rfl, ⟨hx, _, _⟩, ga⟩
              have G6 := hideP hx
              clear hx x0 x1 x2
              go_wp2_with fail
              refine (same6_any C R t6 la d6 p5 c5 (mk C R (fun k i => fa i k)) _ (by rw [mk_map]; exact (G6.out).2.2) (R5.out _ ((b4.trans w9).trans ga)) (by rw [mk_len]; exact HRC.out.2) (wh 100 _ _ _ (by omega) (fun i k hi hk => SA.out k i hk hi)) (by omega)).mono ?_
              rintro e ub ⟨rfl, hub⟩
              have hB : Bl w ub := (((hBV.trans b4).trans w9).trans ga).trans hub
              go_wp2_with fail
              refine (AW.out _).mono ?_
              rintro e w9 ⟨rfl, h9⟩
              go_wp2
              go_ret
              exact ⟨rfl, hB.trans h9⟩
  · have hne0 : ((R : Int) == (C : Int)) = false := by simp; omega
    go_loopw [13, 14, 15, 17, 78] (fun v1 v2 v3 v4 i wr => ∃ (j : Nat) (b3 : Value), b3 = v3 ∧ i = .int .i64 j ∧ j ≤ R ∧ Own4 n0 wr v1 v2 v3 v4 (mk j C (fun i k => fa i k + fb i k)) (mk j C (fun i k => fa i k - fb i k)) (mk j (C + C) (besideM C fa fb)) [] ∧ Bl w0 wr) (fun _ _ _ _ i _ => R - (intOf i).toNat)
    case atStart => exact ⟨0, _, rfl, rfl, Nat.zero_le _, Own4.nil _ _, Bl.refl _⟩
    case round =>
      obtain ⟨j, v3, hv3, rfl, hj, O4, hB⟩ := hrel
      subst hv3
      by_cases hlt : j < R
      · go_wp2_with fail
        have HO := hideP O4
        clear O4
        go_loopw [13, 14, 17, 82] (fun v1 v2 v4 i wr => ∃ k : Nat, i = .int .i64 k ∧ k ≤ C ∧ Own4 n0 wr v1 v2 v3 v4 (mk j C (fun i k => fa i k + fb i k) ++ rowM k (fun i k => fa i k + fb i k) j) (mk j C (fun i k => fa i k - fb i k) ++ rowM k (fun i k => fa i k - fb i k) j) (mk j (C + C) (besideM C fa fb)) [] ∧ Bl w0 wr) (fun _ _ _ i _ => C - (intOf i).toNat)
        case atStart => exact ⟨0, rfl, Nat.zero_le _, by simpa [rowM] using HO.out, hB⟩
        case round =>
          clear hB HO
          obtain ⟨k, rfl, hk, O4, hB⟩ := hrel
          by_cases hlt2 : k < C
          · obtain ⟨a, q, e1, e2, hq1, hq3, hq5, hq6⟩ := place hd hlt hlt2
            rw [← HN.out] at hq5
            have CX := fun u (hu : Bl w0 u) => HCA.out j k hlt hlt2 u (hB0.trans hu)
            have CY := fun u (hu : Bl w0 u) => HCB.out j k hlt hlt2 u (hB0.trans hu)
            rw [← e2] at CX CY
            have T1 := hideP (show mk j C (fun i k => fa i k + fb i k) ++ rowM (k + 1) (fun i k => fa i k + fb i k) j = (mk j C (fun i k => fa i k + fb i k) ++ rowM k (fun i k => fa i k + fb i k) j) ++ [fa j k + fb j k] by rw [rowM_succ, List.append_assoc])
            have T2 := hideP (show mk j C (fun i k => fa i k - fb i k) ++ rowM (k + 1) (fun i k => fa i k - fb i k) j = (mk j C (fun i k => fa i k - fb i k) ++ rowM k (fun i k => fa i k - fb i k) j) ++ [fa j k - fb j k] by rw [rowM_succ, List.append_assoc])
            have l1 : (mk j C (fun i k => fa i k + fb i k) ++ rowM k (fun i k => fa i k + fb i k) j).length ≤ 1000 := by have := mk_idx hlt hlt2; have := HN.out; rw [List.length_append, mk_len, rowM_len]; omega
            have l2 : (mk j C (fun i k => fa i k - fb i k) ++ rowM k (fun i k => fa i k - fb i k) j).length ≤ 1000 := by have := mk_idx hlt hlt2; have := HN.out; rw [List.length_append, mk_len, rowM_len]; omega
            have hx := SA.out j k hlt hlt2
            have hy := SB.out j k hlt hlt2
            generalize mk j C (fun i k => fa i k + fb i k) ++ rowM k (fun i k => fa i k + fb i k) j = A1 at *
            generalize mk j C (fun i k => fa i k - fb i k) ++ rowM k (fun i k => fa i k - fb i k) j = A2 at *
            generalize mk j (C + C) (besideM C fa fb) = A3 at *
            generalize hgx : fa j k = x at CX T1 T2 hx
            generalize hgy : fb j k = y at CY T1 T2 hy
            clear hgx hgy e1 e2
            have HO := hideP O4
            clear O4
            have wka := wrapS (x := (a : Int)) (by omega) (by omega)
            have wkq := wrapS (x := (q : Int)) (by omega) (by omega)
            have wkp := wrapS (x := x + y) (by omega) (by omega)
            have wkm := wrapS (x := x - y) (by omega) (by omega)
            have KP := hideP (fun (u : World) (hu : Bl w0 u) => (show u.cell? ⟨ba, oa + q, none⟩ = some (.int .i64 x) ∧ u.cell? ⟨bb, ob + q, none⟩ = some (.int .i64 y) ∧ Bl w0 u from ⟨CX u hu, CY u hu, hu⟩))
            clear CX CY
            go_wp2_with fail
            go_region_held3 (fun w' => w'.cell? ⟨ba, oa + q, none⟩ = some (.int .i64 x) ∧ w'.cell? ⟨bb, ob + q, none⟩ = some (.int .i64 y) ∧ Bl w0 w') (exact KP.out _ (by repeat (first | exact Bl.refl _ | assumption | apply Bl.drew | apply Bl.alloc | (refine Bl.put3 ?_ (by omega) _ _ _) | (refine Bl.trans ?_ (by assumption)))))
              (first
                | (rw [if_pos (by rfl)]; refine oper_app (.tmp 85) (.tmp 103) rfl rfl (HO.out.later (by repeat (first | exact Bl.refl _ | assumption | apply Bl.drew | apply Bl.alloc | (refine Bl.put3 ?_ (by omega) _ _ _) | (refine Bl.trans ?_ (by assumption))))) ⟨_, 0, none⟩ 1 1 [x + y] rfl rfl (oneI_at (by simp [go_sem])) (by simp; omega) (Nat.le_trans (by rw [HN0.out]; exact Nat.le_refl _) ((show Bl w0 _ from (by repeat (first | exact Bl.refl _ | assumption | apply Bl.drew | apply Bl.alloc | (refine Bl.put3 ?_ (by omega) _ _ _) | (refine Bl.trans ?_ (by assumption))))).size)) ?_; intro v1' u1 B1; have k1 : Bl w0 u1 := B1.bl (by repeat (first | exact Bl.refl _ | assumption | apply Bl.drew | apply Bl.alloc | (refine Bl.put3 ?_ (by omega) _ _ _) | (refine Bl.trans ?_ (by assumption)))) (by rw [HN0.out]; exact Nat.le_refl _); have HB1 := hideP B1; clear B1)
                | (rw [if_pos (by rfl)]; refine oper_app (.tmp 105) (.tmp 123) rfl rfl (HB1.out.1.to2.later (by repeat (first | exact Bl.refl _ | assumption | apply Bl.drew | apply Bl.alloc | (refine Bl.put3 ?_ (by omega) _ _ _) | (refine Bl.trans ?_ (by assumption))))) ⟨_, 0, none⟩ 1 1 [x - y] rfl rfl (oneI_at (by first | (simp [go_sem]; done) | exact (HB1.out.cell HO.out.o1 (by simp) (by simp <;> omega) 0).trans (by simp [go_sem]))) (by simp; omega) (Nat.le_trans (by rw [HN0.out]; exact Nat.le_refl _) ((show Bl w0 _ from (by repeat (first | exact Bl.refl _ | assumption | apply Bl.drew | apply Bl.alloc | (refine Bl.put3 ?_ (by omega) _ _ _) | (refine Bl.trans ?_ (by assumption))))).size)) ?_; intro v2' u2 B2; have k2 : Bl w0 u2 := B2.bl (by repeat (first | exact Bl.refl _ | assumption | apply Bl.drew | apply Bl.alloc | (refine Bl.put3 ?_ (by omega) _ _ _) | (refine Bl.trans ?_ (by assumption)))) (by rw [HN0.out]; exact Nat.le_refl _); have O5 := hideP B2.1.to2; clear B2))
            all_goals
              rename_i hh
              clear hh wka wkq wkp wkm hq1 hq3 hq5 hq6
              go_wp2
              go_roundw
              case rel => exact ⟨k + 1, by simp, hlt2, by rw [T1.out, T2.out]; exact O5.out, k2⟩
              case measure => simp [intOf]; omega
          · have hkC : C = k := by omega
            clear hk hlt2
            subst hkC
            obtain ⟨a, e, e1, e2, hq1, hq3, hq5, hq6, hq7⟩ := places hd hlt
            rw [← HN.out] at hq5
            have slA := fun u => Try.partI ba oa la ca a e u (by omega) (by omega) hca (by omega)
            have slB := fun u => Try.partI bb ob la cb a e u (by omega) (by omega) hcb (by omega)
            rw [show e - a = C by omega] at slA slB
            have wka := wrapS (x := (a : Int)) (by omega) (by omega)
            have wke := wrapS (x := (e : Int)) (by omega) (by omega)
            have wkj := wrapS (x := (j : Int) + 1) (by omega) (by omega)
            have PA := hideP (partI_cells (w := w0) (fun i k hi hk u hu => HCA.out i k hi hk u (hB0.trans hu)) hlt e1)
            have PB := hideP (partI_cells (w := w0) (fun i k hi hk u hu => HCB.out i k hi hk u (hB0.trans hu)) hlt e1)
            have T1 := hideP (mk_succ j C (fun i k => fa i k + fb i k))
            have T2 := hideP (mk_succ j C (fun i k => fa i k - fb i k))
            have T3 := hideP (show mk (j + 1) (C + C) (besideM C fa fb) = (mk j (C + C) (besideM C fa fb) ++ rowM C fa j) ++ rowM C fb j by rw [mk_succ, rowM_beside, List.append_assoc])
            have l3 : (mk j (C + C) (besideM C fa fb)).length ≤ 1000 := by rw [mk_len]; exact Nat.le_trans (Nat.mul_le_mul (show j ≤ 16 by omega) (show C + C ≤ 32 by omega)) (by decide)
            have lA : (rowM C fa j).length = C := rowM_len _ _ _
            have lB : (rowM C fb j).length = C := rowM_len _ _ _
            have HO := hideP O4
            clear O4 e1 e2
            generalize rowM C fa j = rA at *
            generalize rowM C fb j = rB at *
            generalize mk j (C + C) (besideM C fa fb) = A3 at *
            go_wp2_with fail
            go_region_held3 (fun w' => Bl w0 w') (exact (by repeat (first | exact Bl.refl _ | assumption | apply Bl.drew | apply Bl.alloc | (refine Bl.put3 ?_ (by omega) _ _ _) | (refine Bl.trans ?_ (by assumption)))))
              (first
                | (rw [if_pos (by rfl)]; refine oper_app (.tmp 144) (.tmp 153) rfl rfl (HO.out.to3.later (by repeat (first | exact Bl.refl _ | assumption | apply Bl.drew | apply Bl.alloc | (refine Bl.put3 ?_ (by omega) _ _ _) | (refine Bl.trans ?_ (by assumption))))) _ C (ca - a) rA rfl lA (PA.out _ (by repeat (first | exact Bl.refl _ | assumption | apply Bl.drew | apply Bl.alloc | (refine Bl.put3 ?_ (by omega) _ _ _) | (refine Bl.trans ?_ (by assumption))))) (by omega) (Nat.le_trans (by rw [HN0.out]; exact Nat.le_refl _) ((show Bl w0 _ from (by repeat (first | exact Bl.refl _ | assumption | apply Bl.drew | apply Bl.alloc | (refine Bl.put3 ?_ (by omega) _ _ _) | (refine Bl.trans ?_ (by assumption))))).size)) ?_; intro v3' u1 B1; have k1 : Bl w0 u1 := B1.bl (by repeat (first | exact Bl.refl _ | assumption | apply Bl.drew | apply Bl.alloc | (refine Bl.put3 ?_ (by omega) _ _ _) | (refine Bl.trans ?_ (by assumption)))) (by rw [HN0.out]; exact Nat.le_refl _); have HB1 := hideP B1.1; clear B1)
                | (rw [if_pos (by rfl)]; refine oper_app (.tmp 154) (.tmp 163) rfl rfl (HB1.out.later (by repeat (first | exact Bl.refl _ | assumption | apply Bl.drew | apply Bl.alloc | (refine Bl.put3 ?_ (by omega) _ _ _) | (refine Bl.trans ?_ (by assumption))))) _ C (cb - a) rB rfl lB (PB.out _ (by repeat (first | exact Bl.refl _ | assumption | apply Bl.drew | apply Bl.alloc | (refine Bl.put3 ?_ (by omega) _ _ _) | (refine Bl.trans ?_ (by assumption))))) (by rw [List.length_append]; omega) (Nat.le_trans (by rw [HN0.out]; exact Nat.le_refl _) ((show Bl w0 _ from (by repeat (first | exact Bl.refl _ | assumption | apply Bl.drew | apply Bl.alloc | (refine Bl.put3 ?_ (by omega) _ _ _) | (refine Bl.trans ?_ (by assumption))))).size)) ?_; intro v3'' u2 B2; have k2 : Bl w0 u2 := B2.bl (by repeat (first | exact Bl.refl _ | assumption | apply Bl.drew | apply Bl.alloc | (refine Bl.put3 ?_ (by omega) _ _ _) | (refine Bl.trans ?_ (by assumption)))) (by rw [HN0.out]; exact Nat.le_refl _); have O5 := hideP B2.1.to3; clear B2))
            rename_i hh
            clear hh slA slB wka wke wkj
            go_wp2
            go_roundw
            case rel => exact ⟨j + 1, _, rfl, by simp, hlt, by rw [T1.out, T2.out, T3.out]; exact O5.out, k2⟩
            case measure => simp [intOf]; omega
      · have hjR : R = j := by omega
        clear hj hlt
        subst hjR
        have HO := hideP O4
        clear O4
        obtain ⟨w1, hw1⟩ : ∃ w1, w1 = wr := ⟨_, rfl⟩
        subst hw1
        obtain ⟨n1, hn1⟩ : ∃ n1, n1 = w1.heap.size := ⟨_, rfl⟩
        have HN1 := hideP hn1
        clear hn1
        go_wp2_with fail
        go_loopw [16, 167] (fun v i wr => ∃ k : Nat, i = .int .i64 k ∧ k ≤ C ∧ Own4 n1 wr v (.slice none 0 0) (.slice none 0 0) (.slice none 0 0) (mk k R (fun k i => fa i k)) [] [] [] ∧ Bl w1 wr) (fun _ i _ => C - (intOf i).toNat)
        case atStart => exact ⟨0, rfl, Nat.zero_le _, Own4.nil _ _, Bl.refl _⟩
        case round =>
          obtain ⟨k, rfl, hk, O4, hb1⟩ := hrel
          by_cases hlt : k < C
          · go_wp2_with fail
            have HP := hideP O4
            clear O4
            go_loopw [16, 171] (fun v i wr => ∃ j : Nat, i = .int .i64 j ∧ j ≤ R ∧ Own4 n1 wr v (.slice none 0 0) (.slice none 0 0) (.slice none 0 0) (mk k R (fun k i => fa i k) ++ rowM j (fun k i => fa i k) k) [] [] [] ∧ Bl w1 wr) (fun _ i _ => R - (intOf i).toNat)
            case atStart => exact ⟨0, rfl, Nat.zero_le _, by simpa [rowM] using HP.out, hb1⟩
            case round =>
              clear hb1 HP
              obtain ⟨j, rfl, hj, O4, hb1⟩ := hrel
              by_cases hlt2 : j < R
              · obtain ⟨a, q, e1, e2, hq1, hq3, hq5, hq6⟩ := place hd hlt2 hlt
                rw [← HN.out] at hq5
                have cz := HCA.out j k hlt2 hlt wr (hB0.trans (hB.trans hb1))
                rw [← e2] at cz
                have T1 := hideP (show mk k R (fun k i => fa i k) ++ rowM (j + 1) (fun k i => fa i k) k = (mk k R (fun k i => fa i k) ++ rowM j (fun k i => fa i k) k) ++ [fa j k] by rw [rowM_succ, List.append_assoc])
                have l1 : (mk k R (fun k i => fa i k) ++ rowM j (fun k i => fa i k) k).length ≤ 1000 := by have := mk_idx hlt hlt2; have := HN.out; have := Nat.mul_comm R C; rw [List.length_append, mk_len, rowM_len]; omega
                generalize mk k R (fun k i => fa i k) ++ rowM j (fun k i => fa i k) k = A1 at *
                generalize hgz : fa j k = z at cz T1
                clear hgz e1 e2
                have HP := hideP O4
                clear O4
                go_wp2_with (at_builtin; refine list_app rfl (.tmp 174) (.tmp 183) rfl rfl (HP.out.later (by repeat (first | exact Bl.refl _ | assumption | apply Bl.drew | apply Bl.alloc | (refine Bl.put3 ?_ (by omega) _ _ _) | (refine Bl.trans ?_ (by assumption))))) ⟨_, 0, none⟩ 1 1 [z] rfl rfl (oneI_at (by simp [go_sem])) (by simp; omega) (Nat.le_trans (by rw [HN1.out]; exact Nat.le_refl _) ((show Bl w1 _ from (by repeat (first | exact Bl.refl _ | assumption | apply Bl.drew | apply Bl.alloc | (refine Bl.put3 ?_ (by omega) _ _ _) | (refine Bl.trans ?_ (by assumption))))).size)) ?_; intro v' u3 B3)
                have k3 : Bl w1 u3 := B3.bl (by repeat (first | exact Bl.refl _ | assumption | apply Bl.drew | apply Bl.alloc | (refine Bl.put3 ?_ (by omega) _ _ _) | (refine Bl.trans ?_ (by assumption)))) (by rw [HN1.out]; exact Nat.le_refl _)
                have O6 := hideP B3.1
                clear B3 cz
                go_wp2
                go_roundw
                case rel => exact ⟨j + 1, by simp, hlt2, by rw [T1.out]; exact O6.out, k3⟩
                case measure => simp [intOf]; omega
              · have hjR : R = j := by omega
                clear hj hlt2
                subst hjR
                have T1 := hideP (mk_succ k R (fun k i => fa i k))
                have HP := hideP O4
                clear O4
                go_wp2_with fail
                go_roundw
                case rel => exact ⟨k + 1, by simp, hlt, by rw [T1.out]; exact HP.out, hb1⟩
                case measure => simp [intOf]; omega
          · have hkC : C = k := by omega
            clear hk hlt
            subst hkC
            have hRC : R * C = la := HN.out.symm
            have hCR : C * R = la := by rw [Nat.mul_comm]; exact hRC
            have O5 := O4.o1
            have q1 := HO.out.o1
            have q2 := HO.out.o2
            have q3 := HO.out.o3
            have q4 := HO.out.o4
            clear HO O4
            obtain ⟨E, hE⟩ : ∃ E, E = C + C := ⟨_, rfl⟩
            obtain ⟨N, hNN⟩ : ∃ N, N = R * E := ⟨_, rfl⟩
            rw [← hE] at q3
            obtain ⟨p1, c1, rfl, R1⟩ := own_row q1 (n := la) (by rw [mk_len]; exact hRC)
            obtain ⟨p2, c2, rfl, R2⟩ := own_row q2 (n := la) (by rw [mk_len]; exact hRC)
            obtain ⟨p3, c3, rfl, R3⟩ := own_row q3 (n := N) (by rw [mk_len]; exact hNN.symm)
            obtain ⟨p5, c5, rfl, R5⟩ := own_row O5 (n := la) (by rw [mk_len]; exact hCR)
            obtain ⟨V, hV⟩ : ∃ V, V = wr := ⟨_, rfl⟩
            subst hV
            have b0V : Bl w0 V := hB.trans hb1
            have Na := Na.later b0V
            have Nb := Nb.later b0V
            have Xa := hideP (Ya.out.later b0V)
            have Xb := hideP (Yb.out.later b0V)
            have R1 := hideP (fun u (hu : Bl V u) => R1 u (hb1.trans hu))
            have R2 := hideP (fun u (hu : Bl V u) => R2 u (hb1.trans hu))
            have R3 := hideP (fun u (hu : Bl V u) => R3 u (hb1.trans hu))
            have R5 := hideP R5
            have hBV : Bl w V := hB0.trans b0V
            have h2C : 2 * (C : Int) = (E : Int) := by omega
            have HE := hideP hE
            have HNN := hideP hNN
            have HRC := hideP (And.intro hRC hCR)
            clear q1 q2 q3 q4 O5 hE hNN hRC hCR Ya Yb HCA HCB hB hb1
            have hne' : ((R : Int) == (C : Int)) = false := by simp; omega
            obtain ⟨x0, x1, x2, _, _, _, xl⟩ := id Na
            obtain ⟨y0, y1, y2, _, _, _, yl⟩ := id Nb
            go_wp2_with fail
            refine (add6_any (A := 100) (B := 100) R C qa qb la ka kb _ _ _ Xa.out Xb.out SA.out SB.out (by omega) (by omega)).mono ?_
            rintro e u1 ⟨t1, d1, rfl, hx, g1⟩
            have G1 := hideP hx
            clear hx x0 x1 x2 y0 y1 y2
            have M1 := MBox.new u1 R C t1 la d1 27
            obtain ⟨x0, x1, x2, _, _, _, xl1⟩ := Na.later g1
            obtain ⟨y0, y1, y2, _, _, _, yl1⟩ := Nb.later g1
            go_wp2_with fail
            refine (sub6_any (A := 100) (B := 100) R C qa qb la ka kb _ _ _ (Xa.out.later (g1.alloc _)) (Xb.out.later (g1.alloc _)) SA.out SB.out (by omega) (by omega)).mono ?_
            rintro e u2 ⟨t2, d2, rfl, hx, g2⟩
            have G2 := hideP hx
            clear hx x0 x1 x2 y0 y1 y2
            have M2 := MBox.new u2 R C t2 la d2 27
            have b2 : Bl V u2 := (g1.alloc _).trans g2
            obtain ⟨x0, x1, x2, _, _, _, xl2⟩ := Na.later b2
            obtain ⟨y0, y1, y2, _, _, _, yl2⟩ := Nb.later b2
            by_cases hw16 : E ≤ 16
            · have hw' : (E : Int) ≤ 16 := by omega
              go_wp2_with fail
              refine (beside6_any R C C qa la ka _ qb la kb _ E N _ (Xa.out.later (b2.alloc _)) (Xb.out.later (b2.alloc _)) HE.out hw16 HNN.out).mono ?_
              rintro e u3 ⟨t3, d3, rfl, hx, g3⟩
              have G3 := hideP hx
              clear hx x0 x1 x2 y0 y1 y2
              have M3 := MBox.new u3 R E t3 N d3 27
              have b3 : Bl V u3 := (b2.alloc _).trans g3
              obtain ⟨x0, x1, x2, _, _, _, xl3⟩ := Na.later b3
              go_wp2_with fail
              refine (mMirrorF_no R C qa la ka _ hf (by omega)).mono ?_
              rintro e u4 ⟨rfl, g4⟩
              clear x0 x1 x2
              obtain ⟨u5, hu5⟩ : ∃ u5, u5 = u4.alloc (.cells #[.int .i64 0, .int .i64 0, .slice none 0 0] 27) := ⟨_, rfl⟩
              have M4 : MBox u5 u4.heap.size 0 0 none 0 0 := by rw [hu5]; exact MBox.new u4 _ _ _ _ _ _
              have b45 : Bl u4 u5 := by rw [hu5]; exact (Bl.refl _).alloc _
              have b4 : Bl V u5 := ((b3.alloc _).trans g4).trans b45
              have z35 : Bl u3 u5 := (((Bl.refl _).alloc _).trans g4).trans b45
              have z25 : Bl u2 u5 := (((Bl.refl _).alloc _).trans g3).trans z35
              have z15 : Bl u1 u5 := (((Bl.refl _).alloc _).trans g2).trans z25
              have z24 : Bl u2 u4 := (((Bl.refl _).alloc _).trans g3).trans (((Bl.refl _).alloc _).trans g4)
              have M1 := M1.later (g2.trans z24)
              have M2 := M2.later (g3.trans z35)
              have M3 := M3.later (g4.trans b45)
              have Na5 := Na.later b4
              have wh : ∀ (B : Int) (f : Nat → Nat → Int) (X Y : Nat), B ≤ 100000 → Sm2 B X Y f → ∀ z ∈ mk X Y f, Wh z := fun B f X Y hB hS z hz => by have := mk_sml hS z hz; exact ⟨by omega, by omega⟩
              obtain ⟨x0, x1, x2, _, _, _, xl5⟩ := id M1
              have HU5 := hideP hu5
              clear hu5
              go_wp2_with fail
              rw [← HU5.out]
              refine (same6_any R C t1 la d1 p1 c1 (mk R C (fun i k => fa i k + fb i k)) _ (by rw [mk_map]; exact (G1.out.later z15).2.2) (R1.out _ b4) (by rw [mk_len]; exact HRC.out.1) (wh 200 _ _ _ (by omega) (sm2_add SA.out SB.out)) (by omega)).mono ?_
              rintro e u6 ⟨rfl, hu6⟩
              clear x0 x1 x2
              have w6 : Bl u5 u6 := hu6
              obtain ⟨x0, x1, x2, _, _, _, xl6⟩ := M2.later w6
              go_wp2_with fail
              refine (same6_any R C t2 la d2 p2 c2 (mk R C (fun i k => fa i k - fb i k)) _ (by rw [mk_map]; exact (G2.out.later (z25.trans w6)).2.2) (R2.out _ (b4.trans w6)) (by rw [mk_len]; exact HRC.out.1) (wh 200 _ _ _ (by omega) (fun i k hi hk => by have e1 := SA.out i k hi hk; have e2 := SB.out i k hi hk; exact ⟨by omega, by omega⟩)) (by omega)).mono ?_
              rintro e u7 ⟨rfl, hu7⟩
              clear x0 x1 x2
              have w7 : Bl u5 u7 := w6.trans hu7
              obtain ⟨x0, x1, x2, _, _, _, xl7⟩ := M3.later w7
              go_wp2_with fail
              refine (same6_any R E t3 N d3 p3 c3 (mk R E (besideM C fa fb)) _ (by rw [mk_map]; exact (G3.out.later (z35.trans w7)).2.2) (R3.out _ (b4.trans w7)) (by rw [mk_len]; exact HNN.out.symm) (wh 100 _ _ _ (by omega) (by rw [HE.out]; exact sm2_beside SA.out SB.out)) (by have h1 := Nat.mul_le_mul hR16 hw16; have := HNN.out; omega)).mono ?_
              rintro e u8 ⟨rfl, hu8⟩
              clear x0 x1 x2
              have w8 : Bl u5 u8 := w7.trans hu8
              obtain ⟨x0, x1, x2, _, _, _, xl9⟩ := Na5.later w8
              go_wp2_with fail
              refine (mTurnF R C qa la ka _ _ (Xa.out.later (b4.trans w8))).mono ?_
              rintro e ua ⟨t6, d6, rfl, ⟨hx, _, _⟩, ga⟩
              have G6 := hideP hx
              clear hx x0 x1 x2
              go_wp2_with fail
              refine (same6_any C R t6 la d6 p5 c5 (mk C R (fun k i => fa i k)) _ (by rw [mk_map]; exact (G6.out).2.2) (R5.out _ ((b4.trans w8).trans ga)) (by rw [mk_len]; exact HRC.out.2) (wh 100 _ _ _ (by omega) (fun i k hi hk => SA.out k i hk hi)) (by omega)).mono ?_
              rintro e ub ⟨rfl, hub⟩
              have hB : Bl w ub := (((hBV.trans b4).trans w8).trans ga).trans hub
              go_wp2_with fail
              refine (AW.out _).mono ?_
              rintro e w9 ⟨rfl, h9⟩
              go_wp2
              go_ret
              exact ⟨rfl, hB.trans h9⟩
            · have hw' : ¬ (E : Int) ≤ 16 := by omega
              go_wp2_with fail
              refine (mBesideF_wide R C qa la ka qb la kb _ hf hf (by have := HE.out; omega)).mono ?_
              rintro e u3 ⟨rfl, g3⟩
              clear x0 x1 x2 y0 y1 y2
              have M3 := MBox.new u3 0 0 none 0 0 27
              have b3 : Bl V u3 := (b2.alloc _).trans g3
              obtain ⟨x0, x1, x2, _, _, _, xl3⟩ := Na.later b3
              go_wp2_with fail
              refine (mMirrorF_no R C qa la ka _ hf (by omega)).mono ?_
              rintro e u4 ⟨rfl, g4⟩
              clear x0 x1 x2
              obtain ⟨u5, hu5⟩ : ∃ u5, u5 = u4.alloc (.cells #[.int .i64 0, .int .i64 0, .slice none 0 0] 27) := ⟨_, rfl⟩
              have M4 : MBox u5 u4.heap.size 0 0 none 0 0 := by rw [hu5]; exact MBox.new u4 _ _ _ _ _ _
              have b45 : Bl u4 u5 := by rw [hu5]; exact (Bl.refl _).alloc _
              have b4 : Bl V u5 := ((b3.alloc _).trans g4).trans b45
              have z35 : Bl u3 u5 := (((Bl.refl _).alloc _).trans g4).trans b45
              have z25 : Bl u2 u5 := (((Bl.refl _).alloc _).trans g3).trans z35
              have z15 : Bl u1 u5 := (((Bl.refl _).alloc _).trans g2).trans z25
              have z24 : Bl u2 u4 := (((Bl.refl _).alloc _).trans g3).trans (((Bl.refl _).alloc _).trans g4)
              have M1 := M1.later (g2.trans z24)
              have M2 := M2.later (g3.trans z35)
              have M3 := M3.later (g4.trans b45)
              have Na5 := Na.later b4
              have wh : ∀ (B : Int) (f : Nat → Nat → Int) (X Y : Nat), B ≤ 100000 → Sm2 B X Y f → ∀ z ∈ mk X Y f, Wh z := fun B f X Y hB hS z hz => by have := mk_sml hS z hz; exact ⟨by omega, by omega⟩
              obtain ⟨x0, x1, x2, _, _, _, xl5⟩ := id M1
              have HU5 := hideP hu5
              clear hu5
              go_wp2_with fail
              rw [← HU5.out]
              refine (same6_any R C t1 la d1 p1 c1 (mk R C (fun i k => fa i k + fb i k)) _ (by rw [mk_map]; exact (G1.out.later z15).2.2) (R1.out _ b4) (by rw [mk_len]; exact HRC.out.1) (wh 200 _ _ _ (by omega) (sm2_add SA.out SB.out)) (by omega)).mono ?_
              rintro e u6 ⟨rfl, hu6⟩
              clear x0 x1 x2
              have w6 : Bl u5 u6 := hu6
              obtain ⟨x0, x1, x2, _, _, _, xl6⟩ := M2.later w6
              go_wp2_with fail
              refine (same6_any R C t2 la d2 p2 c2 (mk R C (fun i k => fa i k - fb i k)) _ (by rw [mk_map]; exact (G2.out.later (z25.trans w6)).2.2) (R2.out _ (b4.trans w6)) (by rw [mk_len]; exact HRC.out.1) (wh 200 _ _ _ (by omega) (fun i k hi hk => by have e1 := SA.out i k hi hk; have e2 := SB.out i k hi hk; exact ⟨by omega, by omega⟩)) (by omega)).mono ?_
              rintro e u7 ⟨rfl, hu7⟩
              clear x0 x1 x2
              have w7 : Bl u5 u7 := w6.trans hu7
              obtain ⟨x0, x1, x2, _, _, _, xl9⟩ := Na5.later w7
              go_wp2_with fail
              refine (mTurnF R C qa la ka _ _ (Xa.out.later (b4.trans w7))).mono ?_
              rintro e ua ⟨t6, d6, rfl, ⟨hx, _, _⟩, ga⟩
              have G6 := hideP hx
              clear hx x0 x1 x2
              go_wp2_with fail
              refine (same6_any C R t6 la d6 p5 c5 (mk C R (fun k i => fa i k)) _ (by rw [mk_map]; exact (G6.out).2.2) (R5.out _ ((b4.trans w7).trans ga)) (by rw [mk_len]; exact HRC.out.2) (wh 100 _ _ _ (by omega) (fun i k hi hk => SA.out k i hk hi)) (by omega)).mono ?_
              rintro e ub ⟨rfl, hub⟩
              have hB : Bl w ub := (((hBV.trans b4).trans w7).trans ga).trans hub
              go_wp2_with fail
              refine (AW.out _).mono ?_
              rintro e w9 ⟨rfl, h9⟩
              go_wp2
              go_ret
              exact ⟨rfl, hB.trans h9⟩
end Go.Proofs.Ytokbmbgiimbkpaa

/- MatSums: the ways out, and all of it. -/
namespace Go.Proofs.Ytokbmbgiimbkpaa
open Go.RowKit
set_option linter.unusedSimpArgs false
set_option linter.unusedVariables false

theorem few6_ok (v : Value) (ns : List Int) (w : World) (h : Rq 1 cI w v ns) (hl : ns.length ≤ 256) (hs : Sml 100 ns) :
    Calls Try.prog 10 #[v] w fun e w' => e = .returned (.bool true) ∧ w' = w := by
  rcases h with ⟨p, cap, rfl, rfl, hpn⟩ | ⟨b, o, cap, rfl, hc, hb, hx⟩
  · go_enter Try.func10, Try.ntmps10
    go_wp2_with fail
    go_loopw [3] (fun i wr => i = .int .i64 0 ∧ wr = w) (fun _ _ => 0)
    case atStart => exact ⟨rfl, rfl⟩
    case round =>
      obtain ⟨rfl, rfl⟩ := hrel
      go_wp2
      go_ret
      exact ⟨by simp, rfl⟩
  · have HX := hideP hx
    have HS := hideP hs
    clear hx hs
    go_enter Try.func10, Try.ntmps10
    go_wp2_with fail
    go_loopw [3] (fun i wr => ∃ k : Nat, i = .int .i64 k ∧ k ≤ ns.length ∧ wr = w) (fun i _ => ns.length - (intOf i).toNat)
    case atStart => exact ⟨0, rfl, Nat.zero_le _, rfl⟩
    case round =>
      obtain ⟨k, rfl, hk, rfl⟩ := hrel
      by_cases hlt : k < ns.length
      · obtain ⟨x, hx⟩ : ∃ x, ns[k]? = some x := ⟨_, List.getElem?_eq_getElem hlt⟩
        have cx := cellI HX.out hx (wr := wr)
        have hx2 := HS.out x (List.mem_of_getElem? hx)
        have h1 : ¬ x < -100 := by omega
        have h2 : ¬ 100 < x := by omega
        clear hx hx2
        go_wp2
        go_roundw
        case rel => exact ⟨k + 1, by simp, hlt, trivial⟩
        case measure => simp [intOf]; omega
      · obtain rfl : k = ns.length := by omega
        go_wp2
        go_ret
        exact ⟨by simp; omega, rfl⟩
set_option maxRecDepth 1000000 in
set_option maxHeartbeats 4000000 in
theorem sums_out (va : Value) (xa : List Int) (vb : Value) (xb : List Int) (rows cols : Int) (w : World) (ha : Rq 1 cI w va xa) (hb : Rq 1 cI w vb xb) (h : ¬ (Sml 100 xa ∧ Sml 100 xb ∧ fitB rows cols xa.length = true ∧ fitB rows cols xb.length = true)) :
    Calls Try.prog 5 #[va, vb, .int .i64 rows, .int .i64 cols] w fun e w' => e = .returned (.bool true) ∧ Bl w w' := by
  have AW := hideP awake6_any
  have F1 := hideP (few6_any va xa w ha)
  have F2 := hideP (few6_any vb xb w hb)
  obtain ⟨pa, ca, rfl, _, _⟩ := ha.cut
  obtain ⟨pb, cb, rfl, _, _⟩ := hb.cut
  have HH := hideP h
  have HA := hideP ha
  have HBB := hideP hb
  clear h ha hb
  obtain ⟨la, hla⟩ : ∃ la, la = xa.length := ⟨_, rfl⟩
  obtain ⟨lb, hlb⟩ : ∃ lb, lb = xb.length := ⟨_, rfl⟩
  rw [← hla] at F1 HA HH ⊢
  rw [← hlb] at F2 HBB HH ⊢
  have HLA := hideP hla
  have HLB := hideP hlb
  clear hla hlb
  go_enter Try.func5, Try.ntmps5
  go_wp2_with fail
  refine F1.out.mono ?_
  rintro e w1 ⟨b1, rfl, hb1, hw1⟩
  replace hw1 := hw1.symm
  subst hw1
  clear F1
  cases b1 with
  | false =>
    go_wp2_with fail
    refine (AW.out _).mono ?_
    rintro e w9 ⟨rfl, h9⟩
    go_wp2
    go_ret
    exact ⟨rfl, (Bl.refl _).trans h9⟩
  | true =>
    have S1 := hideP (hb1 rfl).2
    clear hb1
    go_wp2_with fail
    refine F2.out.mono ?_
    rintro e w1 ⟨b2, rfl, hb2, hw1⟩
    replace hw1 := hw1.symm
    subst hw1
    clear F2
    cases b2 with
    | false =>
      go_wp2_with fail
      refine (AW.out _).mono ?_
      rintro e w9 ⟨rfl, h9⟩
      go_wp2
      go_ret
      exact ⟨rfl, (Bl.refl _).trans h9⟩
    | true =>
      have S2 := hideP (hb2 rfl).2
      clear hb2
      by_cases h1 : rows < 1
      · skip
        go_wp2_with fail
        refine (AW.out _).mono ?_
        rintro e w9 ⟨rfl, h9⟩
        go_wp2
        go_ret
        exact ⟨rfl, (Bl.refl _).trans h9⟩
      by_cases h2 : 16 < rows
      · skip
        go_wp2_with fail
        refine (AW.out _).mono ?_
        rintro e w9 ⟨rfl, h9⟩
        go_wp2
        go_ret
        exact ⟨rfl, (Bl.refl _).trans h9⟩
      by_cases h3 : cols < 1
      · skip
        go_wp2_with fail
        refine (AW.out _).mono ?_
        rintro e w9 ⟨rfl, h9⟩
        go_wp2
        go_ret
        exact ⟨rfl, (Bl.refl _).trans h9⟩
      by_cases h4 : 16 < cols
      · skip
        go_wp2_with fail
        refine (AW.out _).mono ?_
        rintro e w9 ⟨rfl, h9⟩
        go_wp2
        go_ret
        exact ⟨rfl, (Bl.refl _).trans h9⟩
      cases hfa : fitB rows cols la with
      | false =>
        go_wp2_with fail
        refine (mWholeF_no _ _ _ _ _ _ hfa).mono ?_
        rintro e w2 ⟨rfl, h5⟩
        cases hfb : fitB rows cols lb with
        | false =>
          go_wp2_with fail
          refine (mWholeF_no _ _ _ _ _ _ hfb).mono ?_
          rintro e w3 ⟨rfl, h6⟩
          go_wp2_with fail
          refine (AW.out _).mono ?_
          rintro e w9 ⟨rfl, h9⟩
          go_wp2
          go_ret
          exact ⟨rfl, (((h5.alloc _).trans h6).alloc _).trans h9⟩
        | true =>
          obtain ⟨R, C, rfl, rfl, hd, hn⟩ := fitB_nat hfb
          clear hn
          go_wp2_with fail
          refine (whole6_call R C pb lb cb xb _ (HBB.out.later (h5.alloc _)) hfb HLB.out.symm S2.out).mono ?_
          rintro e w3 ⟨p2, c2, rfl, hx, h6⟩
          clear hx
          go_wp2_with fail
          refine (AW.out _).mono ?_
          rintro e w9 ⟨rfl, h9⟩
          go_wp2
          go_ret
          exact ⟨rfl, (((h5.alloc _).trans h6).alloc _).trans h9⟩
      | true =>
        obtain ⟨R, C, rfl, rfl, hd, hn⟩ := fitB_nat hfa
        clear hn
        have hfb : fitB R C lb = false := by
          cases e : fitB R C lb with
          | false => rfl
          | true => exact absurd ⟨S1.out, S2.out, hfa, e⟩ HH.out
        go_wp2_with fail
        refine (whole6_call R C pa la ca xa _ HA.out hfa HLA.out.symm S1.out).mono ?_
        rintro e w2 ⟨p1, c1, rfl, hx, h5⟩
        clear hx
        go_wp2_with fail
        refine (mWholeF_no _ _ _ _ _ _ hfb).mono ?_
        rintro e w3 ⟨rfl, h6⟩
        go_wp2_with fail
        refine (AW.out _).mono ?_
        rintro e w9 ⟨rfl, h9⟩
        go_wp2
        go_ret
        exact ⟨rfl, (((h5.alloc _).trans h6).alloc _).trans h9⟩
theorem walk_MatSums (va : Value) (xa : List Int) (vb : Value) (xb : List Int) (rows cols : Int) (w : World) (ha : Rq 1 cI w va xa) (hb : Rq 1 cI w vb xb) :
    Calls Try.prog 5 #[va, vb, .int .i64 rows, .int .i64 cols] w fun e w' => e = .returned (.bool true) ∧ Bl w w' := by
  by_cases h : Sml 100 xa ∧ Sml 100 xb ∧ fitB rows cols xa.length = true ∧ fitB rows cols xb.length = true
  · obtain ⟨h1, h2, h3, h4⟩ := h
    obtain ⟨R, C, rfl, rfl, hd, hn⟩ := fitB_nat h3
    obtain ⟨R', C', hR, hC, _, hn'⟩ := fitB_nat h4
    have e : xb.length = xa.length := by rw [hn', hn, show R' = R by omega, show C' = C by omega]
    obtain ⟨pa, ca, rfl, _, _⟩ := ha.cut
    obtain ⟨pb, cb, rfl, _, _⟩ := hb.cut
    rw [e] at hb ⊢
    exact sums_main pa xa.length ca xa pb cb xb R C w ha hb h3 rfl e h1 h2 (fun v xs u hr hl hs => few6_ok v xs u hr hl hs)
  · exact sums_out va xa vb xb rows cols w ha hb h
end Go.Proofs.Ytokbmbgiimbkpaa

/- A slice of whole numbers as an argument: opened. -/
namespace Go.Proofs.Ytokbmbgiimbkpaa
open Go.ChangeShapes Go.WideShapes Go.ChangeAt Go.RowKit
set_option linter.unusedVariables false

theorem Try.cellsInt : Try.prog.cellsOf 3 = 1 := by kernel_rfl
theorem cell_block_lt {W : World} {b o : Nat} {v : Value} (h : W.cell? ⟨b, o, none⟩ = some v) : b < W.heap.size := by
  rcases Nat.lt_or_ge b W.heap.size with h' | h'
  · exact h'
  · have : W.heap[b]? = none := Array.getElem?_eq_none h'
    simp [World.cell?, this] at h
set_option maxRecDepth 1000000 in
theorem open_row {H : Type} {enc : TypeId × Value → H} {W : World} {b0 : Nat} {v : Value} {d : DataW H} {p : List MemPlace}
    (hv : Value.okWide Try.prog W .any b0 22 v) (h : DataW.Trod enc Try.prog W 0 (fun _ => true) true 22 v d p) : ∃ ns : List Int, Rq 1 cI W v ns ∧ ∀ n ∈ ns, (Lit.int .i64 n).wf = true := by
  obtain ⟨a0, len, cap, rfl⟩ := okWide_slice Try.underlying22 hv
  obtain ⟨fuel, hf⟩ := h
  rcases open_ints Try.underlying22 Try.underlying3 Try.cellsInt hf with ⟨hcs, hx⟩ | ⟨a, len', cap', zs, hcs, _, hl, hm, hz, hx, hcell, hwz⟩
  · simp [Value.cells] at hcs
    obtain ⟨rfl, rfl, rfl⟩ := hcs
    exact ⟨[], .inl ⟨none, 0, rfl, rfl, fun _ => rfl⟩, fun n hn => by simp at hn⟩
  · simp [Value.cells] at hcs
    obtain ⟨rfl, rfl, rfl⟩ := hcs
    simp only [if_true] at hz
    refine ⟨zs.take len, ?_, fun n hn => hwz n (List.mem_of_mem_take hn)⟩
    by_cases h0 : len = 0
    · subst h0
      exact .inl ⟨some a, cap, rfl, by simp, nofun⟩
    · have c0 := hcell 0 (by omega)
      obtain ⟨b, off, rfl, hc⟩ := ints_at hcell (by omega)
      have hb : b < W.heap.size := by
        have := hc 0 (by omega)
        exact cell_block_lt this
      have hll : (zs.take len).length = len := by simp; omega
      refine .inr ⟨b, off, cap, by rw [hll], by omega, hb, fun j x hj k u hu => ?_⟩
      rcases k with _ | k
      · simp at hu
        subst hu
        have hj2 := (List.getElem?_eq_some_iff.1 hj).1
        have := hc j (by omega)
        rw [List.getElem?_take] at hj
        split at hj
        · have e : zs.getD j 0 = x := by simp [List.getD, hj]
          rw [e] at this
          simpa using this
        · cases hj
      · simp at hu
end Go.Proofs.Ytokbmbgiimbkpaa

/- MatSums: sums, differences, what stands beside one another, what is turned, and mirrored, of matrices of whole numbers, are what their numbers say (of 256 numbers from -100 up to 100). Conditions: none (every input). -/
namespace Go.Proofs.Ytokbmbgiimbkpaa
open Go.ChangeShapes Go.WideShapes Go.ChangeAt Go.RowKit
set_option linter.unusedVariables false

theorem own_MatSums : ownKnob Try.prog.godebug = none := by kernel_rfl
theorem laid_MatSums : laidOutB Try.prog = true := by kernel_rfl
set_option maxRecDepth 100000 in
theorem lifted_MatSums (os : Os) (started : os.Started) (H : Type) (enc : TypeId × Value → H) :
    ReturnsInHanded {} Try.checked os 5 .any (Rows.matSumsSpec.pre6 enc Try.prog Try.f5 Rows.matSumsRow.domain false) (Rows.matSumsSpec.post enc Try.prog Try.f5 false true false false) := by
  refine returnsInHanded_of_change (C := Try.checked) own_MatSums started (by kernel_rfl) Try.func5
    (ChangeSpec.witness6 (enc := enc) (C := Try.checked) false ⟨#[], #[.slice none 0 0, .slice none 0 0, .int .i64 0, .int .i64 0], []⟩ 8 (by kernel_rfl) (by kernel_rfl) (by kernel_rfl) (by kernel_rfl)) ?_
  intro W base args ds gs before hval0 hW hcnd _
  have hval : ∀ (j : Nat) t v, Try.f5.params[j]? = some t → args[j]? = some v → Value.okWide Try.prog W .any base t v := hval0
  have hW' := hW
  obtain ⟨p, q, hA0, hV, rfl, hfz, hnd⟩ := hW
  have hA : DataW.TrodAll enc Try.prog W 0 (fun _ => true) true Try.f5.params.toList args.toList ds p := hA0
  rw [Try.params5] at hA hval
  obtain ⟨v0, vs0, d0, ds0, p0, q0, hargs, rfl, rfl, h0, r0⟩ := trodAll_cons hA
  obtain ⟨v1, vs1, d1, ds1, p1, q1, rfl, rfl, rfl, h1, r1⟩ := trodAll_cons r0
  obtain ⟨v2, vs2, d2, ds2, p2, q2, rfl, rfl, rfl, h2, r2⟩ := trodAll_cons r1
  obtain ⟨v3, vs3, d3, ds3, p3, q3, rfl, rfl, rfl, h3, r3⟩ := trodAll_cons r2
  obtain ⟨rfl, rfl, rfl⟩ := trodAll_nil r3
  obtain rfl : args = #[v0, v1, v2, v3] := by cases args; simp_all
  obtain ⟨rfl, rfl⟩ := trodVars_none hV
  have hltA := fun x hx => hW'.lt x hx
  obtain ⟨a0, R0, w0⟩ := open_row (hval 0 22 v0 rfl rfl) h0
  obtain ⟨a1, R1, w1⟩ := open_row (hval 1 22 v1 rfl rfl) h1
  obtain ⟨a2, e2, _, _, w2⟩ := open_int Try.underlying3 (hval 2 3 v2 rfl rfl) h2
  subst e2
  obtain ⟨a3, e3, _, _, w3⟩ := open_int Try.underlying3 (hval 3 3 v3 rfl rfl) h3
  subst e3
  clear hA0 hval0
  refine (walk_MatSums v0 a0 v1 a1 a2 a3 W R0 R1).mono fun e W' ⟨he, bel⟩ => ?_
  subst he
  exact ⟨_, rfl, _, _, _, [], _, [], hW', trodAll_mk1 (shut_bool Try.underlying4 _), (trodAll_cons_mk (Below.trod laid_MatSums (by kernel_rfl) (of_decide_eq_true (by kernel_rfl)) h0 bel (fun x hx => by have := hltA x (by simp [hx]); simpa using this)) (trodAll_cons_mk (Below.trod laid_MatSums (by kernel_rfl) (of_decide_eq_true (by kernel_rfl)) h1 bel (fun x hx => by have := hltA x (by simp [hx]); simpa using this)) (trodAll_cons_mk (Below.trod laid_MatSums (by kernel_rfl) (of_decide_eq_true (by kernel_rfl)) h2 bel (fun x hx => by have := hltA x (by simp [hx]); simpa using this)) (trodAll_cons_mk (Below.trod laid_MatSums (by kernel_rfl) (of_decide_eq_true (by kernel_rfl)) h3 bel (fun x hx => by have := hltA x (by simp [hx]); simpa using this)) trodAll_mk0)))), rfl, Below.frame bel _, fun h => by cases h⟩

theorem proved_MatSums : Rows.MatSumsSaid :=
  OpenClaim.holds_of_wide 5 Try.f5 rfl rfl rfl rfl rfl rfl rfl ⟨rfl, rfl, rfl, rfl, rfl⟩ rfl rfl rfl rfl rfl (by kernel_rfl) Try.func5 (by kernel_rfl)
    (of_decide_eq_true (by kernel_rfl)) (by unfold Func.isWrapper; first | (rw [if_pos (by decide +kernel)]; kernel_rfl) | (rw [if_neg (by decide +kernel)]; exact ⟨rfl, rfl⟩))
    (fun os started H enc _ => lifted_MatSums os started H enc)
#print axioms proved_MatSums
end Go.Proofs.Ytokbmbgiimbkpaa

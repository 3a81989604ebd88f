/- Contract of house's Signs, of enclosed numbers (layer 8). Written by genHu.py. -/
import Derived.Test.YtlbmkjicbkfmjaaGreatHuEN
import Derived.Test.YtlbmkjicbkfmjaaGreatTrDN
namespace Go.Proofs.YtlbmkjicbkfmjaaGreat
open Go.RowKit Go.Shelf
set_option linter.unusedSimpArgs false
set_option linter.unusedVariables false
attribute [local go_sem] Oper.semAt_some

set_option maxRecDepth 100000 in
set_option maxHeartbeats 4000000 in
theorem hSignsN (n : Nat) (p : Option Addr) (N cap : Nat) (f : Nat → Nat → En) (w : World) (h : Mx 4 cellsN w n n p N cap f) :
    Calls Tryz.prog 89 #[mV n n p N cap] w fun e w' => ∃ p' cap', e = .returned (.tuple #[mV n n p' N cap', .bool true]) ∧ (Mx 4 cellsN w' n n p' N cap' (signsH kdN (fun j => lowN (f j j)) f) ∧ Fresh w.heap.size (.slice p' N cap')) ∧ Bl w w' := by
  have fm : Tryz.prog.follows .mixedOrders = true := by kernel_rfl
  have ms := Tryz.hSignN
  have hd := h.1
  have hn16 := hd.r2
  have hn1 := hd.r1
  have HN := hideP h.2.1
  have HD := hideP hd
  have hfit := h.fit
  obtain ⟨W, hW⟩ : ∃ W, W = (w.alloc (.cells #[.int .i64 n, .int .i64 n, .slice p N cap] 24)).alloc (.cells #[.int .i64 0, .int .i64 0, .slice none 0 0] 24) := ⟨_, rfl⟩
  have b0 : Bl w W := by rw [hW]; exact ((Bl.refl _).alloc _).alloc _
  have m0 : MBox W w.heap.size n n p N cap := by rw [hW]; exact (MBox.new w _ _ _ _ _ _).later ((Bl.refl _).alloc _)
  have x0 : MBox W (w.heap.size + 1) 0 0 none 0 0 := by rw [hW]; have := MBox.new (w.alloc (.cells #[.int .i64 n, .int .i64 n, .slice p N cap] 24)) 0 0 none 0 0 24; rw [World.size_alloc] at this; exact this
  have hs0 : W.heap.size = w.heap.size + 1 + 1 := by rw [hW]; simp
  have DG := hideP (tDiagN n p N cap f W (h.later b0))
  have NW := hideP (fun u (hu : Bl w u) => mNewZN n n p N cap (mk n n f) u (h.2.2.later hu) hfit (by rw [mk_len, HN.out]))
  have HW := hideP hW
  clear hW h hd
  go_enter Tryz.func89, Tryz.ntmps89
  go_wp2_with fail
  rw [← HW.out]
  refine DG.out.mono ?_
  rintro e w1 ⟨p1, c1, rfl, hr1, h1⟩
  obtain ⟨b1, o1, rfl, hb1, DC⟩ : ∃ b1 o1, p1 = some ⟨b1, o1, none⟩ ∧ b1 < w1.heap.size ∧ ∀ j, j < n → ∀ k u, (cellsN (f j j))[k]? = some u → w1.cell? ⟨b1, o1 + j * 4 + k, none⟩ = some u := by
    rcases hr1 with ⟨_, e0⟩ | ⟨b1, o1, c, e, _, hb, hx⟩
    · have := congrArg List.length e0; simp at this; omega
    · simp only [Value.slice.injEq] at e
      obtain ⟨rfl, _, _⟩ := e
      exact ⟨b1, o1, rfl, hb, fun j hj k u hu => hx j (f j j) (by simp [hj]) k u hu⟩
  have HDC := hideP DC
  have en : ((n : Int) == 0) = false := by simp; omega
  have bw1 : Bl w w1 := b0.trans h1
  have x1 := x0.later h1
  obtain ⟨c0, c1', c2, f0, f1, f2, lt⟩ := m0.later h1
  clear hr1 DC DG
  go_wp2_with fail
  refine (NW.out _ bw1).mono ?_
  rintro e w2 ⟨p2, c2', rfl, hz2, h2⟩
  obtain ⟨g, hp2, hg1, hg2⟩ : ∃ g, p2 = some ⟨g, 0, none⟩ ∧ w1.heap.size ≤ g ∧ g < w2.heap.size := by
    obtain ⟨g, c, e, _, h1, h2, _⟩ := hz2
    simp only [Value.slice.injEq] at e
    exact ⟨g, e.1, h1, h2⟩
  subst hp2
  have HZ := hideP hz2
  obtain ⟨W2, hW2⟩ : ∃ W2, W2 = w2.alloc (.cells #[.int .i64 n, .int .i64 n, .slice (some ⟨g, 0, none⟩) N c2'] 24) := ⟨_, rfl⟩
  have b2 : Bl w2 W2 := by rw [hW2]; exact (Bl.refl _).alloc _
  have k2 : MBox W2 w2.heap.size n n (some ⟨g, 0, none⟩) N c2' := by rw [hW2]; exact MBox.new w2 _ _ _ _ _ _
  have h12 : Bl w1 W2 := h2.trans b2
  have x2 := x1.later h12
  have hs1 := bw1.size
  have hs1' := h1.size
  have hs2 := h2.size
  have HGW := hideP (show w.heap.size + 2 ≤ g by omega)
  have HW2 := hideP hW2
  clear hW2 hz2 NW c0 c1' c2 f0 f1 f2 lt
  go_wp2_with fail
  rw [← HW2.out]
  go_loopw [27] (fun v wr => ∃ j : Nat, v = .int .i64 j ∧ j ≤ n ∧ RwZ 4 cellsN wr w1.heap.size (.slice (some ⟨g, 0, none⟩) N c2') (mk n n (sgTo negE lowN j f)) ∧ But (fun b => b = g) W2 wr) (fun v _ => n - (intOf v).toNat)
  case atStart => exact ⟨0, rfl, Nat.zero_le _, by rw [mk_congr (fun i j _ _ => show sgTo negE lowN 0 f i j = f i j from if_neg (by omega))]; exact HZ.out.later b2, But.refl _ _⟩
  case round =>
    obtain ⟨j, rfl, hj, hr, bt⟩ := hrel
    have HR := hideP hr
    clear hr
    have kb := mbox_block k2 (bt.block _ k2.lt (by show ¬ w2.heap.size = g; omega)) bt.size
    by_cases hlt : j < n
    · obtain ⟨x, hx⟩ : ∃ x, x = f j j := ⟨_, rfl⟩
      have DX := hideP (show ∀ k u, (cellsN x)[k]? = some u → wr.cell? ⟨b1, o1 + j * 4 + k, none⟩ = some u from fun k u hu => ((bt.cell b1 _ (Nat.lt_of_lt_of_le hb1 h12.size) (by show ¬ b1 = g; omega)).trans (bl_cell h12 _ _ hb1)).trans (HDC.out j hlt k u (by rw [← hx]; exact hu)))
      have x0 : wr.cell? ⟨b1, o1 + j * 4, none⟩ = some (.int .i64 x.v) := DX.out 0 _ rfl
      have x1 : wr.cell? ⟨b1, o1 + j * 4 + 1, none⟩ = some (.int .i64 x.l) := DX.out 1 _ rfl
      have x2 : wr.cell? ⟨b1, o1 + j * 4 + 2, none⟩ = some (.int .i64 x.h) := DX.out 2 _ rfl
      have x3 : wr.cell? ⟨b1, o1 + j * 4 + 3, none⟩ = some (.bool x.bad) := DX.out 3 _ rfl
      have hb1r : b1 < wr.heap.size := Nat.lt_of_lt_of_le (Nat.lt_of_lt_of_le hb1 h12.size) bt.size
      have HX := hideP hx
      have SG := hideP (show lowN x = decide (signE x < 0) from rfl)
      have SGC := hideP (fun u => signE_any x u)
      obtain ⟨lo, hlo⟩ : ∃ lo, lo = lowN x := ⟨_, rfl⟩
      rw [← hlo] at SG
      have HLO := hideP hlo
      clear hx hlo
      generalize signE x = sg at *
      obtain ⟨W3, hW3⟩ : ∃ W3, W3 = wr.alloc (.cells #[.int .i64 x.v, .int .i64 x.l, .int .i64 x.h, .bool x.bad] 28) := ⟨_, rfl⟩
      have b3 : Bl wr W3 := by rw [hW3]; exact (Bl.refl _).alloc _
      have HW3 := hideP hW3
      clear hW3
      go_wp2_with fail
      rw [← HW3.out]
      refine (SGC.out _).mono ?_
      rintro e w3 ⟨rfl, h3⟩
      have h3' : Bl wr w3 := b3.trans h3
      have bt3 : But (fun b => b = g) W2 w3 := bt.trans (But.of_bl h3')
      clear x0 x1 x2 x3
      by_cases hs : sg < 0
      · have hlo : lo = true := by rw [SG.out]; exact decide_eq_true hs
        obtain ⟨c0, c1', c2, f0, f1, f2, lt⟩ := kb.later h3'
        have NG := hideP (hNegateN n g N c2' (sgTo negE lowN j f) w3 w1.heap.size HD.out HN.out (HR.out.later h3') j hlt)
        rw [mk_congr (fun i c hi hc => show negTo negE j n (sgTo negE lowN j f) i c = sgTo negE lowN (j + 1) f i c from sgTo_yes negE lowN (by rw [← HX.out, ← HLO.out]; exact hlo) hi)] at NG
        go_wp2_with fail
        refine NG.out.mono ?_
        rintro e w4 ⟨⟨v4, rfl⟩, hz4, bt4⟩
        have HZ4 := hideP hz4
        have bt4' : But (fun b => b = g) W2 w4 := bt3.trans bt4
        clear hz4 NG c0 c1' c2 f0 f1 f2 lt
        go_wp2
        go_roundw
        case rel => exact ⟨j + 1, by simp, hlt, HZ4.out, bt4'⟩
        case measure => simp [intOf]; omega
      · have hlo : lo = false := by rw [SG.out]; exact decide_eq_false hs
        have HZ3 := hideP (HR.out.later h3')
        rw [mk_congr (fun i c hi hc => show sgTo negE lowN j f i c = sgTo negE lowN (j + 1) f i c from (sgTo_no negE lowN (by rw [← HX.out, ← HLO.out]; exact hlo)).symm)] at HZ3
        go_wp2
        go_roundw
        case rel => exact ⟨j + 1, by simp, hlt, HZ3.out, bt3⟩
        case measure => simp [intOf]; omega
    · obtain rfl : j = n := by omega
      obtain ⟨d0, d1, d2, g0, g1, g2, lt'⟩ := kb
      obtain ⟨c0, c1', c2, f0, f1, f2, lt⟩ := mbox_block x2 (bt.block _ x2.lt (by show ¬ w.heap.size + 1 = g; omega)) bt.size
      have RES := hideP (show Mx 4 cellsN wr j j (some ⟨g, 0, none⟩) N c2' (signsH kdN (fun i => lowN (f i i)) f) from ⟨HD.out, HN.out, by
        rw [mk_congr (fun i c hi hc => show signsH kdN (fun i => lowN (f i i)) f i c = sgTo negE lowN j f i c from (sgTo_all negE lowN hc).symm)]
        exact HR.out.rw.q⟩)
      have BR : Bl w wr := bt.bl (bw1.trans h12) (fun i e => by show w.heap.size ≤ i; have : i = g := e; omega)
      clear HR
      go_wp2
      simp [bodyPost, results, Tryz.results89, go_sem, c0, c1', c2]
      exact ⟨_, _, ⟨rfl, rfl⟩, ⟨mx_ne7 RES.out (fun b hb => by have e : g = b := Option.some.inj hb; have := HGW.out; omega) _ _ _, fun b hb => by have e : g = b := Option.some.inj hb; have := HGW.out; omega⟩, Bl.put3 BR (Nat.le_succ _) _ _ _⟩
end Go.Proofs.YtlbmkjicbkfmjaaGreat

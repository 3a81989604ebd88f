/- A row of bytes that is changed in place; SumTurned. -/
import Derived.Test.YtljmggemdkfbiaaDoorSu4
namespace Go.Proofs.YtljmggemdkfbiaaDoor
open Go.RowKit
set_option linter.unusedSimpArgs false
set_option linter.unusedVariables false

/-- A row of bytes in a block of its own, at or beyond the end of w0. -/
structure ByBox (w0 w : World) (g cap : Nat) (xs : List Nat) : Prop where
  bl : Bl w0 w
  lo : w0.heap.size ≤ g
  hi : g < w.heap.size
  room : xs.length ≤ cap
  fr : ∀ o : Nat, w.frozen? ⟨g, o, none⟩ = false
  cl : ∀ (j x : Nat), xs[j]? = some x → w.cell? ⟨g, j, none⟩ = some (.int .u8 (x : Int))
theorem ByBox.of_own {w0 w : World} {v : Value} {xs : List Nat} (h : OwnB w0 w v xs) (hne : 0 < xs.length) : ∃ g cap, v = .slice (some ⟨g, 0, none⟩) xs.length cap ∧ ByBox w0 w g cap xs := by
  obtain ⟨hb, ho⟩ := h
  have hlt := ho.lt
  have hr := Rw.of_own cB_len ho
  have h2 := ho.2
  rcases h2 with ⟨_, h0⟩ | ⟨g, cap, cur, rfl, hg, hh, hc, _⟩
  · omega
  · have hfz : ∀ j, w.frozen? ⟨g, j, none⟩ = false := fun j => ho.frozenAt j
    have hl := hlt g rfl
    refine ⟨g, cap, rfl, hb, hl.1, hl.2, hc, hfz, fun j x hx => ?_⟩
    rcases hr with ⟨h3, _⟩ | ⟨b, o, cap2, e, _, _, hX⟩
    · first | cases h3 | exact absurd h3 (by simp)
    · cases e
      have := hX j x hx 0 _ rfl
      simpa using this
theorem ByBox.rq {w0 w : World} {g cap : Nat} {xs : List Nat} (h : ByBox w0 w g cap xs) : Rq 1 cB w (.slice (some ⟨g, 0, none⟩) xs.length cap) xs := by
  refine .inr ⟨g, 0, cap, rfl, h.room, h.hi, fun j x hj k u hu => ?_⟩
  rcases k with _ | k
  · simp [cB] at hu
    subst hu
    simpa using h.cl j x hj
  · simp [cB] at hu
theorem ByBox.later {w0 w w' : World} {g cap : Nat} {xs : List Nat} (h : ByBox w0 w g cap xs) (k : Bl w w') : ByBox w0 w' g cap xs :=
  ⟨h.bl.trans k, h.lo, Nat.lt_of_lt_of_le h.hi (Below.size k), h.room, fun o => (bl_froz k _ _ h.hi).trans (h.fr o), fun j x hj => (bl_cell k _ _ h.hi).trans (h.cl j x hj)⟩
theorem ByBox.put {w0 w : World} {g cap : Nat} {xs : List Nat} (h : ByBox w0 w g cap xs) {j : Nat} (hj : j < xs.length) (y : Nat) : ByBox w0 (w.setCell ⟨g, j, none⟩ (.int .u8 (y : Int))) g cap (xs.set j y) := by
  refine ⟨h.bl.set h.lo _, h.lo, by simpa using h.hi, by rw [List.length_set]; exact h.room, fun o => ?_, fun i x hi => ?_⟩
  · rw [← h.fr o]
    simp [go_sem]
  · by_cases e : i = j
    · subst e
      rw [List.getElem?_set_self hj] at hi
      cases hi
      exact World.cell?_setCell_same _ _ _ (h.cl i _ (List.getElem?_eq_getElem hj))
    · rw [List.getElem?_set_ne (fun e2 => e e2.symm)] at hi
      rw [World.cell?_setCell_other _ _ _ _ (by intro h2; simp only [Addr.mk.injEq] at h2; omega)]
      exact h.cl i x hi
set_option maxRecDepth 100000 in
set_option maxHeartbeats 2000000 in
theorem walk_SumTurned (va : Value) (xs : List Nat) (i by' : Int) (w : World) (h : ByIn w va xs) (hby : 0 ≤ by' ∧ by' ≤ 255) (ht : HalfTab w) :
    Calls Tryd.prog 5 #[va, .int .i64 i, .int .u8 by'] w fun e w' => e = .returned (.bool true) ∧ Bl w w' := by
  obtain ⟨hr, hx, hl⟩ := h
  obtain ⟨p, cap, rfl⟩ := rq_val hr
  have AW := hideP (fun u (hu : Bl w u) => awake11_any u (ht.later hu))
  by_cases hgo : xs.length ≤ 3000 ∧ 0 ≤ i ∧ i < xs.length ∧ by' ≠ 0
  · obtain ⟨h3, h0, hi, hne⟩ := hgo
    obtain ⟨k, rfl⟩ := Int.eq_ofNat_of_zero_le h0
    obtain ⟨c, rfl⟩ := Int.eq_ofNat_of_zero_le hby.1
    have hk : k < xs.length := by omega
    have hc : c < 256 := by omega
    have hc0 : c ≠ 0 := by omega
    have hcz : ¬ ((c : Int) = 0) := by omega
    obtain ⟨x, hxk⟩ : ∃ x, xs[k]? = some x := ⟨_, List.getElem?_eq_getElem hk⟩
    have hx8 : x < 256 := hx x (List.mem_of_getElem? hxk)
    have e1 := u8_xor_nat x c hx8 hc
    have hz8 : x ^^^ c < 256 := Nat.xor_lt_two_pow (n := 8) (by omega) (by omega)
    have hgd : xs.getD k 0 = x := by simp [List.getD, hxk]
    have HT : sumOf (xs.set k (x ^^^ c)) ≠ sumOf xs := by
      have := sumOf_turned hx hk hc hc0
      rwa [hgd] at this
    have hxs : ∀ z ∈ xs.set k (x ^^^ c), z < 256 := fun z hz => by
      rcases List.mem_or_eq_of_mem_set hz with h | h
      · exact hx z h
      · omega
    have A1 := hideP (fun u (hu : Bl w u) => of_any _ _ u (hr.later hu) hx (by omega) (ht.later hu))
    have A2 := hideP (fun u (hu : Bl w u) => refOf_any _ _ u (hr.later hu) hx (by omega))
    have A3 := hideP (fun u v (hu : Bl w u) (hq : Rq 1 cB u v (xs.set k (x ^^^ c))) => of_any v _ u hq hxs (by rw [List.length_set]; omega) (ht.later hu))
    have HX := hideP hr
    clear hr hx ht hxs hgd
    have hxl : xs.length ≤ 3000 := h3
    have OE := hideP (OwnB.empty w)
    obtain ⟨W, hW⟩ : ∃ W, W = w.alloc (.cells #[] 5) := ⟨_, rfl⟩
    rw [← hW] at OE
    have HW := hideP hW
    clear hW
    have HZ := hideP (show (x ^^^ c) = (x ^^^ c) from rfl)
    generalize hS : sumOf xs = S at *
    generalize hS2 : sumOf (xs.set k (x ^^^ c)) = S2 at *
    have HS := hideP hS
    have HS2 := hideP hS2
    clear hS hS2
    have hSS : ((S2 : Int) != (S : Int)) = true := by
      have h0 : ¬ ((S2 : Int) = (S : Int)) := fun e => HT (Int.ofNat.inj e)
      simpa using h0
    obtain ⟨n, hn⟩ : ∃ n, n = xs.length := ⟨_, rfl⟩
    rw [← hn] at HX A1 A2 hi h3 hl hk ⊢
    have HN := hideP hn
    clear hn h0
    have hcb : ((c : Int) == 0) = false := by simpa using hcz
    go_enter Tryd.func5, Tryd.ntmps5
    go_wp2_with (at_builtin; rw [← HW.out]; refine list_appB rfl (.tmp 26) (.tmp 27) rfl rfl OE.out rfl (HX.out.later OE.out.1) (by first | omega | (simp; omega)) ?_)
    intro v1 w2 O1
    replace O1 : OwnB w w2 v1 xs := O1
    obtain ⟨g, cap2, rfl, B1⟩ := ByBox.of_own O1 (by have := HN.out; first | omega | (simp; omega))
    have hl1 : xs.length = n := HN.out.symm
    have hb1 : Bl w w2 := B1.bl
    have c1 := B1.cl k x (by simpa using hxk)
    have f1 := B1.fr k
    have hg1 := B1.lo
    have hgs := B1.hi
    have hgc := B1.room
    have B2 := hideP (B1.put (j := k) (by rw [hl1]; exact hk) (x ^^^ c))
    clear O1 B1
    rw [hl1] at hgc ⊢
    have hl2 : (xs.set k (x ^^^ c)).length = n := by rw [List.length_set]; exact HN.out.symm
    have HL2 := hideP hl2
    clear hl1 hl2
    generalize hz : x ^^^ c = z at *
    obtain ⟨U, hU⟩ : ∃ U, U = w2.setCell ⟨g, k, none⟩ (.int .u8 (z : Int)) := ⟨_, rfl⟩
    have B3 : Hid (ByBox w U g cap2 (xs.set k z)) := by rw [hU]; exact B2.out
    have R3 := hideP B3.out.rq
    rw [HL2.out] at R3
    have hbU := hideP B3.out.bl
    have HU := hideP hU
    clear hU B2 B3
    go_wp2_with fail
    rw [← HU.out]
    refine (A3.out _ _ hbU.out R3.out).mono ?_
    rintro e w4 ⟨rfl, rfl⟩
    go_wp2_with fail
    refine (A1.out _ hbU.out).mono ?_
    rintro e w4 ⟨rfl, rfl⟩
    go_wp2_with fail
    refine (A1.out _ hbU.out).mono ?_
    rintro e w4 ⟨rfl, rfl⟩
    go_wp2_with fail
    refine (A2.out _ hbU.out).mono ?_
    rintro e w4 ⟨rfl, rfl⟩
    go_wp2_with fail
    refine (AW.out _ hbU.out).mono ?_
    rintro e w4 ⟨rfl, h4⟩
    go_wp2
    go_ret
    exact ⟨rfl, hbU.out.trans h4⟩
  · obtain ⟨n, hn⟩ : ∃ n, n = xs.length := ⟨_, rfl⟩
    rw [← hn] at hr hgo hl ⊢
    clear hr hx hn
    by_cases h1 : 3000 < n
    · clear hgo
      go_enter Tryd.func5, Tryd.ntmps5
      go_wp2_with fail
      refine (AW.out _ (Bl.refl _)).mono ?_
      rintro e w4 ⟨rfl, h4⟩
      go_wp2
      go_ret
      exact ⟨rfl, h4⟩
    · by_cases h2 : i < 0
      · clear hgo
        go_enter Tryd.func5, Tryd.ntmps5
        go_wp2_with fail
        refine (AW.out _ (Bl.refl _)).mono ?_
        rintro e w4 ⟨rfl, h4⟩
        go_wp2
        go_ret
        exact ⟨rfl, h4⟩
      · by_cases h3 : (n : Int) ≤ i
        · clear hgo
          go_enter Tryd.func5, Tryd.ntmps5
          go_wp2_with fail
          refine (AW.out _ (Bl.refl _)).mono ?_
          rintro e w4 ⟨rfl, h4⟩
          go_wp2
          go_ret
          exact ⟨rfl, h4⟩
        · obtain rfl : by' = 0 := by omega
          clear hgo
          go_enter Tryd.func5, Tryd.ntmps5
          go_wp2_with fail
          refine (AW.out _ (Bl.refl _)).mono ?_
          rintro e w4 ⟨rfl, h4⟩
          go_wp2
          go_ret
          exact ⟨rfl, h4⟩
end Go.Proofs.YtljmggemdkfbiaaDoor

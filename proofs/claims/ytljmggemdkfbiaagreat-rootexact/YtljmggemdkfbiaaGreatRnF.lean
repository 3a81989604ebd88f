/- RootExact: a case's mathematics; news that are the same, compared; rows of fractions, number by number. -/
import Derived.Test.YtljmggemdkfbiaaGreatRnE
import Derived.Test.YtljmggemdkfbiaaGreatRn0
import Derived.Test.YtljmggemdkfbiaaGreatRoDF
import Derived.Test.YtljmggemdkfbiaaGreatJoHF
import Derived.Test.YtljmggemdkfbiaaGreatJf
namespace Go.Proofs.YtljmggemdkfbiaaGreat
open Go.RowKit
set_option linter.unusedSimpArgs false
set_option linter.unusedVariables false

theorem Tryz.nwFields : Tryz.prog.underlying 41 = some (.struct (Tryz.prog.fieldsOf 41)) := by kernel_rfl
theorem Tryz.nwHeld : Tryz.prog.stoodInHeld 41 = false := by kernel_rfl
theorem Tryz.nwGuard : Tryz.prog.eqGuardType Tryz.prog.depth 41 = false := by kernel_rfl
theorem Tryz.nwList : (Tryz.prog.fieldsOf 41).toList.map (fun f => (f.name, f.type, f.offset)) = [("Surprise", 34, 0), ("Spread", 34, 3)] := by kernel_rfl
theorem eqIn_fr (d : Nat) (a : Fr) (w : World) : (Op.equalIn (d + 2) 34 (frV a) (frV a)).run Tryz.prog w = .ok true w := by
  rw [run_equalIn_agg _ _ _ _ _ Tryz.frFields Tryz.frHeld]
  rw [eqFields_map (d + 1) #[.int .i64 a.n, .int .i64 a.d, .bool a.bad] #[.int .i64 a.n, .int .i64 a.d, .bool a.bad] _ [{ name := "N", type := 3, offset := 0, embedded := false, tag := "", pkgPath := "", byteOffset := 0 }, { name := "D", type := 3, offset := 1, embedded := false, tag := "", pkgPath := "", byteOffset := 0 }, { name := "Bad", type := 4, offset := 2, embedded := false, tag := "", pkgPath := "", byteOffset := 0 }] Tryz.frList]
  simp [Op.eqFields, part, go_sem]
theorem neq_news (a b : Fr) (w : World) : (binOp .neq 41 (.agg #[.int .i64 a.n, .int .i64 a.d, .bool a.bad, .int .i64 b.n, .int .i64 b.d, .bool b.bad]) (.agg #[.int .i64 a.n, .int .i64 a.d, .bool a.bad, .int .i64 b.n, .int .i64 b.d, .bool b.bad])).run Tryz.prog w = .ok (.bool false) w := by
  rw [run_neq_struct, run_equalIn_agg _ _ _ _ _ Tryz.nwFields Tryz.nwHeld]
  rw [eqFields_map 9999 _ _ _ [{ name := "Surprise", type := 34, offset := 0, embedded := false, tag := "", pkgPath := "", byteOffset := 0 }, { name := "Spread", type := 34, offset := 3, embedded := false, tag := "", pkgPath := "", byteOffset := 0 }] Tryz.nwList]
  have e1 := eqIn_fr 9997 a w
  have e2 := eqIn_fr 9997 b w
  simp [Op.eqFields, part, go_sem] at e1 e2 ⊢
theorem rq_cellsLF {w : World} {p : Option Addr} {n cap : Nat} {L : List Fr} (h : Rq 3 cellsF w (.slice p n cap) L) (h0 : 0 < n) : ∃ g o, p = some ⟨g, o, none⟩ ∧ L.length = n ∧ ∀ u, Bl w u → ∀ (j : Nat) (x : Fr), L[j]? = some x →
    u.cell? ⟨g, o + j * 3, none⟩ = some (.int .i64 x.n) ∧ u.cell? ⟨g, o + j * 3 + 1, none⟩ = some (.int .i64 x.d) ∧ u.cell? ⟨g, o + j * 3 + 2, none⟩ = some (.bool x.bad) := by
  rcases h with ⟨p', cap', e, hx, _⟩ | ⟨b, o, cap', e, hc, hb, hx⟩
  · simp only [Value.slice.injEq] at e
    omega
  · simp only [Value.slice.injEq] at e
    obtain ⟨rfl, rfl, rfl⟩ := e
    refine ⟨b, o, rfl, rfl, fun u hu j x hj => ⟨?_, ?_, ?_⟩⟩
    · have := hx j x hj 0 _ rfl
      exact (bl_cell hu _ _ hb).trans (by simpa using this)
    · exact (bl_cell hu _ _ hb).trans (hx j x hj 1 _ rfl)
    · exact (bl_cell hu _ _ hb).trans (hx j x hj 2 _ rfl)
theorem mk_at {α : Type} {R C : Nat} (f : Nat → Nat → α) {t : Nat} (h : t < R * C) : (mk R C f)[t]? = some (f (t / C) (t % C)) ∧ t / C < R ∧ t % C < C := by
  have hC : 0 < C := by
    rcases Nat.eq_zero_or_pos C with rfl | h0
    · simp at h
    · exact h0
  have h1 : t / C < R := Nat.div_lt_of_lt_mul (by rw [Nat.mul_comm]; exact h)
  have h2 := Nat.mod_lt t hC
  refine ⟨?_, h1, h2⟩
  have e : t / C * C + t % C = t := by rw [Nat.mul_comm]; exact Nat.div_add_mod t C
  have := mk_get (R := R) (C := C) f h1 h2
  rw [e] at this
  exact this
theorem getD_sml9 {A : Int} {L : List Int} (h : Sml A L) {i : Nat} (hi : i < L.length) : -A ≤ L.getD i 0 ∧ L.getD i 0 ≤ A := by
  rw [List.getD_eq_getElem?_getD, List.getElem?_eq_getElem hi]
  exact h _ (List.getElem_mem hi)
/-- RootExact's mathematics, of a case. -/
theorem ex10 {m : Nat} {Ro H : List Int} {r : Int} (m1 : 1 ≤ m) (m3 : m ≤ 3) (hr : Ro.length = m * m) (hh : H.length = m) (sh : Sml 5 H) (sr : Sml 5 Ro) (r1 : 1 ≤ r) (r5 : r ≤ 5) :
    ExO m (clrF fun i k => wholeF (ofL m (mk m m (clrI (ofL m Ro))) i k)) (fun i k => wholeF (ofL m (mk m m (clrI (ofL m Ro))) i k)) (fun i => wholeF (H.getD i 0)) (newR r 1) := by
  have ho := ofL_sml hr sr
  have T : TriX m (clrI (ofL m Ro)) (fun i => H.getD i 0) r := ⟨m1, m3, fun i k hi hk => by have := ho i k hi hk; unfold clrI; split <;> omega, fun i k hik => by unfold clrI; rw [if_neg (by omega)], fun k hk => getD_sml9 sh (by omega), r1, r5⟩
  have w0 : ∀ i k, i < m → k < m → wholeF (ofL m (mk m m (clrI (ofL m Ro))) i k) = itF (clrI (ofL m Ro) i k) := fun i k hi hk => by
    rw [ofL_mk7 _ hi hk]
    have := T.sb i k hi hk
    exact whole_it (by unfold Wh; omega)
  rw [new_it (n := r) (by unfold Wh; omega)]
  refine exO T (fun i k hi hk => ?_) w0 (fun k hk => by have := T.hb k hk; exact whole_it (by unfold Wh; omega))
  show (if k ≤ i then wholeF (ofL m (mk m m (clrI (ofL m Ro))) i k) else wholeF 0) = _
  by_cases h : k ≤ i
  · rw [if_pos h, w0 i k hi hk]
  · rw [if_neg h]
    unfold clrI
    rw [if_neg h]
    exact whole_it (by unfold Wh; omega)
theorem whole10F_call (R C : Nat) (p : Option Addr) (n cap : Nat) (ns : List Int) (w : World) (hr : Rq 1 cI w (.slice p n cap) ns) (hd : Dim R C) (hn : n = R * C) (hl : ns.length = n) :
    Calls Tryz.prog 12 #[.int .i64 R, .int .i64 C, .slice p n cap] w fun e w' => ∃ p' cap', e = .returned (.tuple #[mV R C p' n cap', .bool true]) ∧ Mx 3 cellsF w' R C p' n cap' (fun i k => wholeF (ofL C ns i k)) ∧ Bl w w' := by
  refine (mWholeF R C p n cap ns w hr (fitB_dim hd hn) hl).mono ?_
  rintro e w' ⟨p', cap', rfl, hR, hb⟩
  refine ⟨p', cap', rfl, ⟨hd, hn, ?_⟩, hb⟩
  have e := ofL_mk (R := R) (M := C) (ns := ns) (by rw [hl, hn])
  rw [e, mk_map] at hR
  exact hR.q
end Go.Proofs.YtljmggemdkfbiaaGreat

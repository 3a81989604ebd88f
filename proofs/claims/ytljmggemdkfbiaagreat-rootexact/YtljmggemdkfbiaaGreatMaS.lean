/- Contracts of layer 6's Same, Alike. -/
import Derived.Test.YtljmggemdkfbiaaGreatMaH
import Derived.Test.YtljmggemdkfbiaaGreatWlr
namespace Go.Proofs.YtljmggemdkfbiaaGreat
open Go.RowKit
set_option linter.unusedSimpArgs false
set_option linter.unusedVariables false

theorem neq_selfV (r : Fr) (w : World) : (binOp .neq 34 (frV r) (frV r)).run Tryz.prog w = .ok (.bool false) w := by
  rw [neq_fr, eqR_self]; rfl
set_option maxHeartbeats 1000000 in
theorem same6_any (r c : Int) (p : Option Addr) (n cap : Nat) (q : Option Addr) (cap2 : Nat) (ns : List Int) (w : World) (h : Rq 3 cellsF w (.slice p n cap) (ns.map itF)) (h2 : Rq 1 cI w (.slice q n cap2) ns) (hn : ns.length = n) (hs : ∀ x ∈ ns, Wh x) (hl : n ≤ 1000) :
    Calls Tryz.prog 31 #[mV r c p n cap, .int .i64 r, .int .i64 c, .slice q n cap2] w fun e w' => e = .returned (.bool true) ∧ Bl w w' := by
  have b0 : Bl w (w.alloc (.cells #[.int .i64 r, .int .i64 c, .slice p n cap] 30)) := (Bl.refl _).alloc _
  have EG := Tryz.frGuard
  have CA : ∀ k x, ns[k]? = some x → ∃ b o, p = some ⟨b, o, none⟩ ∧ ∀ u, Bl w u → u.cell? ⟨b, o + k * 3, none⟩ = some (.int .i64 x) ∧ u.cell? ⟨b, o + k * 3 + 1, none⟩ = some (.int .i64 1) ∧ u.cell? ⟨b, o + k * 3 + 2, none⟩ = some (.bool false) := by
    intro k x hk
    rcases h with ⟨_, _, _, h0, _⟩ | ⟨b, o, cc, e, _, hlt, HX⟩
    · have : ns = [] := by simpa using h0
      rw [this] at hk; simp at hk
    · cases e
      refine ⟨b, o, rfl, fun u hu => ?_⟩
      have hk' : (ns.map itF)[k]? = some (itF x) := by rw [List.getElem?_map, hk]; rfl
      exact ⟨(bl_cell hu _ _ hlt).trans (HX k _ hk' 0 _ rfl), (bl_cell hu _ _ hlt).trans (HX k _ hk' 1 _ rfl), (bl_cell hu _ _ hlt).trans (HX k _ hk' 2 _ rfl)⟩
  have CB : ∀ k x, ns[k]? = some x → ∃ b o, q = some ⟨b, o, none⟩ ∧ ∀ u, Bl w u → u.cell? ⟨b, o + k, none⟩ = some (.int .i64 x) := by
    intro k x hk
    rcases h2 with ⟨_, _, _, h0, _⟩ | ⟨b, o, cc, e, _, hlt, HX⟩
    · rw [h0] at hk; simp at hk
    · cases e
      exact ⟨b, o, rfl, fun u hu => (bl_cell hu _ _ hlt).trans (cellI HX hk (wr := w))⟩
  have HA := hideP CA
  have HB := hideP CB
  have HS := hideP hs
  have HN := hideP hn
  clear CA CB hs h h2 hn
  go_enter Tryz.func31, Tryz.ntmps31
  go_wp2_with fail
  go_loopw [32] (fun i wr => ∃ k : Nat, i = .int .i64 k ∧ k ≤ n ∧ Bl w wr) (fun i _ => n - (intOf i).toNat)
  case atStart => exact ⟨0, rfl, Nat.zero_le _, b0⟩
  case round =>
    obtain ⟨k, rfl, hk, bl⟩ := hrel
    by_cases hlt : k < n
    · obtain ⟨x, hx⟩ : ∃ x, ns[k]? = some x := ⟨_, List.getElem?_eq_getElem (by have := HN.out; omega)⟩
      obtain ⟨b, o, rfl, CX⟩ := HA.out k x hx
      obtain ⟨b', o', rfl, CY⟩ := HB.out k x hx
      obtain ⟨c0, c1, c2⟩ := CX wr bl
      have hw : Wh x := HS.out x (List.mem_of_getElem? hx)
      go_wp2_with fail
      obtain ⟨V, hV⟩ : ∃ V, V = wr.alloc (.cells #[.int .i64 x, .int .i64 1, .bool false] 34) := ⟨_, rfl⟩
      have bV : Bl w V := by rw [hV]; exact bl.alloc _
      have BX : FBox V wr.heap.size (itF x) := by rw [hV]; exact FBox.new wr (itF x) _
      have z0 := fun z : Wl V => (BX.later z.bl).c0
      have z1 := fun z : Wl V => (BX.later z.bl).c1
      have z2 := fun z : Wl V => (BX.later z.bl).c2
      have z3 := fun z : Wl V => CY z.w (bV.trans z.bl)
      have wne := wl_ne V
      have NW := hideP (fun z : Wl V => new_few (n := x) hw z.w)
      have ne1 := neq_selfV (itF x)
      rw [← hV]
      generalize hr : itF x = rr at *
      clear hr c0 c1 c2 CX CY BX hV
      refine wl_region V (Bl.refl _) (by kernel_rfl) (by kernel_rfl) ?_
      repeat (go_big_quiet_step (first | (go_at_call 17; exact wl_call (NW.out _))))
      refine wpQuiet_nil ?_
      intro _ hw'
      obtain ⟨z, hw''⟩ := hw'
      subst hw''
      clear wne z0 z1 z2 z3 ne1
      obtain ⟨w3, h3⟩ := z
      dsimp only
      go_wp2
      go_roundw
      case rel => exact ⟨k + 1, by simp, hlt, bV.trans h3⟩
      case measure => simp [intOf]; omega
    · obtain rfl : k = n := by omega
      go_wp2
      go_ret
      exact ⟨rfl, bl⟩
end Go.Proofs.YtljmggemdkfbiaaGreat

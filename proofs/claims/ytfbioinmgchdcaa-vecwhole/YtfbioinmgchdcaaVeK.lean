/- The walk of VecSplits. -/
import Derived.Test.YtfbioinmgchdcaaVeJ
import Derived.Test.YtfbioinmgchdcaaWlr
import Derived.Deep.RegionWith
namespace Go.Proofs.Ytfbioinmgchdcaa
open Go.RowKit
set_option linter.unusedSimpArgs false
set_option linter.unusedVariables false

/-- The address of a row's others: of none that could be read it stays. -/
def dropP (p : Option Addr) (cap m s : Nat) : Option Addr := if cap = m then p else p.map fun a => a.add (m * s)
theorem Try.dropF (p : Option Addr) (n cap m : Nat) (w : World) (h : m ≤ n) (hc : n ≤ cap) : (Instr.sliceAt 25 (.slice p n cap) (some (.int .i64 m)) none none).run Try.prog w = .ok (.slice (dropP p cap m 3) (n - m) (cap - m)) w := by
  have hu : Try.prog.underlying 25 = some (.slice (Try.prog.elem 25)) := by kernel_rfl
  obtain ⟨i0, hi, hz0, hz1, hz2⟩ := info_parts Try.info_F
  have he : Try.prog.elem 25 = 28 := by kernel_rfl
  rw [run_sliceAt_slice (h := hu), run_slice_l (ht := hu) (h0 := by omega) (h1 := by omega), he]
  by_cases hcm : cap = m
  · simp [sizeOf, typeInfo, hi, sliced, Result.andThen, hz1, dropP, hcm]
  · have hcm' : ¬ cap - m = 0 := by omega
    simp [sizeOf, typeInfo, hi, sliced, Result.andThen, hz1, dropP, hcm, hcm']
theorem Rw.drop {α : Type} {s : Nat} {c : α → List Value} {w : World} {p : Option Addr} {cap l : Nat} {xs : List α} (h : Rw s c w (.slice p l cap) xs) (hl : l = xs.length) (n : Nat) (hn : n ≤ xs.length) :
    Rw s c w (.slice (dropP p cap n s) (l - n) (cap - n)) (xs.drop n) := by
  subst hl
  rcases h with ⟨e, rfl⟩ | ⟨b, o, cap', e, hc, hb, hx⟩
  · cases e
    obtain rfl : n = 0 := by simpa using hn
    exact .inl ⟨rfl, rfl⟩
  · cases e
    unfold dropP
    split
    · rename_i hcn
      have hd : xs.drop n = [] := List.drop_eq_nil_of_le (by omega)
      rw [hd]
      exact .inr ⟨b, o, cap - n, by simp; omega, by simp, hb, fun j x hj => by simp at hj⟩
    · have hadd : (⟨b, o, none⟩ : Addr).add (n * s) = ⟨b, o + n * s, none⟩ := by unfold Addr.add; split <;> simp_all
      refine .inr ⟨b, o + n * s, cap - n, ?_, by simp; omega, hb, fun j x hj k u hu => ?_⟩
      · simp [hadd]
      · rw [List.getElem?_drop] at hj
        have := hx (n + j) x hj k u hu
        rwa [show o + (n + j) * s + k = o + n * s + j * s + k by rw [Nat.add_mul]; omega] at this
theorem Rw.take' {α : Type} {s : Nat} {c : α → List Value} {w : World} {p : Option Addr} {cap l : Nat} {xs : List α} (h : Rw s c w (.slice p l cap) xs) (n : Nat) (hn : n ≤ xs.length) : Rw s c w (.slice p n cap) (xs.take n) := by
  obtain ⟨q, d, e, _, hh⟩ := h.cut
  cases e
  exact hh n hn
set_option maxHeartbeats 2000000 in
theorem walk_VecSplits (v : Value) (ns : List Int) (n : Int) (w : World) (h : Rq 1 cI w v ns) :
    Calls Try.prog 8 #[v, .int .i64 n] w fun e w' => e = .returned (.bool true) ∧ Bl w w' := by
  have AW := hideP awake5_any
  have F := hideP (few_any v ns w h)
  obtain ⟨p, cap, rfl, hc, _⟩ := h.cut
  have H := hideP h
  clear h
  go_enter Try.func8, Try.ntmps8
  go_wp2_with fail
  refine F.out.mono ?_
  rintro e w1 ⟨b, rfl, hb, rfl⟩
  clear F
  have cs : (b = false ∨ (b = true ∧ n < 0) ∨ (b = true ∧ ¬ n < 0 ∧ (ns.length : Int) < n)) ∨ (b = true ∧ 0 ≤ n ∧ n ≤ (ns.length : Int)) := by
    cases b
    · exact .inl (.inl rfl)
    · rcases (by omega : n < 0 ∨ (¬ n < 0 ∧ (ns.length : Int) < n) ∨ (0 ≤ n ∧ n ≤ (ns.length : Int))) with h | h | h
      · exact .inl (.inr (.inl ⟨rfl, h⟩))
      · exact .inl (.inr (.inr ⟨rfl, h⟩))
      · exact .inr ⟨rfl, h⟩
  rcases cs with cs | ⟨rfl, h0, h1⟩
  · clear hb
    rcases cs with rfl | ⟨rfl, h0⟩ | ⟨rfl, h0, h1⟩
    all_goals
      go_wp2_with fail
      refine (AW.out _).mono ?_
      rintro e w2 ⟨rfl, h2⟩
      go_wp2
      go_ret
      exact ⟨rfl, h2⟩
  · obtain ⟨hl, hs⟩ := hb rfl
    clear hb
    obtain ⟨m, rfl⟩ : ∃ m : Nat, n = (m : Int) := ⟨n.toNat, by omega⟩
    have hm : m ≤ ns.length := by omega
    have hw : Wh ns.sum := by have := hs.sum; exact ⟨by omega, by omega⟩
    have t1 := (hs.take m).sum
    have t2 := (hs.drop m).sum
    have l1 : (ns.take m).length = m := by simp; omega
    have l2 : (ns.drop m).length = ns.length - m := by simp
    have hsum : (ns.take m).sum + (ns.drop m).sum = ns.sum := by rw [← List.sum_append, List.take_append_drop]
    have HSS := hideP hs
    have ADD := hideP (fun u => by
      have := radd_any (itF (ns.take m).sum) (itF (ns.drop m).sum) u
      rw [add_it ⟨by omega, by omega⟩ ⟨by omega, by omega⟩ (by rw [hsum]; exact hw), hsum] at this
      exact this)
    have WH := hideP (whole_few _ ns w1 H.out hs hl)
    clear hs hw t1 t2 l1 l2 hsum
    go_wp2_with fail
    refine WH.out.mono ?_
    rintro e w2 ⟨q, c, rfl, ⟨hr, hc2⟩, h2⟩
    have HR := hideP hr
    clear hr WH
    go_wp2_with fail
    have wne := wl_ne w2
    have cut1 := fun u => Try.cutF q ns.length c m u (by omega)
    have cut2 := fun u => Try.dropF q ns.length c m u hm hc2
    have S1 := hideP (fun z : Wl w2 => sum_few' _ ns z.w (HR.out.later z.bl) HSS.out hl)
    have S2 := hideP (fun z : Wl w2 => sum_few' (.slice q m c) (ns.take m) z.w (by have := (HR.out.later z.bl).take' m (by simpa using hm); rwa [← List.map_take] at this) (HSS.out.take m) (by simp; omega))
    have S3 := hideP (fun z : Wl w2 => sum_few' (.slice (dropP q c m 3) (ns.length - m) (c - m)) (ns.drop m) z.w (by have := (HR.out.later z.bl).drop (by simp) m (by simpa using hm); rwa [← List.map_drop] at this) (HSS.out.drop m) (by simp; omega))
    have S4 := hideP (fun z : Wl w2 => sum_few' (.slice none 0 0) [] z.w (.inl ⟨rfl, rfl⟩) (fun x hx => by simp at hx) (by simp))
    have D := hideP (fun z : Wl w2 => dot_few (A := 1000) (B := 1000) (.slice q ns.length c) (.slice none 0 0) ns [] z.w (HR.out.later z.bl) (.inl ⟨rfl, rfl⟩) HSS.out (fun x hx => by simp at hx) (by omega) (by omega) (by omega) hl (by simp))
    rw [show (([] : List Int).sum) = 0 from rfl] at S4
    rw [show dotI ns [] = 0 by simp [dotI]] at D
    have NW := hideP (fun z : Wl w2 => new_few (n := 0) ⟨by omega, by omega⟩ z.w)
    have EG := Try.frGuard
    have e1 := eql_selfV (itF ns.sum)
    have e2 := eql_selfV (itF 0)
    generalize itF (ns.take m).sum = r1 at *
    generalize itF (ns.drop m).sum = r2 at *
    generalize itF ns.sum = r at *
    generalize itF 0 = z0 at *
    refine wl_region w2 (Bl.refl _) (by kernel_rfl) (by kernel_rfl) ?_
    repeat (go_big_quiet_step (first
      | (go_at_call_of 18 #[Value.slice q ns.length c]; exact wl_call (S1.out _))
      | (go_at_call_of 18 #[Value.slice q m c]; exact wl_call (S2.out _))
      | (go_at_call_of 18 #[Value.slice (dropP q c m 3) (ns.length - m) (c - m)]; exact wl_call (S3.out _))
      | (go_at_call_of 18 #[Value.slice none 0 0]; exact wl_call (S4.out _))
      | (go_at_call 26; exact wl_call (ADD.out _))
      | (go_at_call 15; exact wl_call (NW.out _))
      | (go_at_call 16; exact wl_call (D.out _))
      | (go_at_call 10; exact wl_call (AW.out _))))
    refine wpQuiet_nil ?_
    intro _ hw'
    obtain ⟨z, hw''⟩ := hw'
    subst hw''
    clear wne cut1 cut2
    obtain ⟨w3, h3⟩ := z
    dsimp only
    go_wp2
    go_ret
    exact ⟨rfl, h2.trans h3⟩
end Go.Proofs.Ytfbioinmgchdcaa

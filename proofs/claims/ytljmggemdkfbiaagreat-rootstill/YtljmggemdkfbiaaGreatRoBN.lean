/- Contract of slices.Backward over a row, of enclosed numbers: an iterator from the last number to the first one (layer 10). Written by genRo.py. -/
import Derived.Test.YtljmggemdkfbiaaGreatRo0
import Derived.Test.YtljmggemdkfbiaaGreatRfw
import Derived.Test.YtljmggemdkfbiaaGreatMaEN
import Derived.Test.YtljmggemdkfbiaaGreatVeR
namespace Go.Proofs.YtljmggemdkfbiaaGreat
open Go.RowKit Go.Shelf
set_option linter.unusedSimpArgs false
set_option linter.unusedVariables false
attribute [local go_sem] Oper.semAt_some
/-- A row's slice, in a block of its own. -/
structure KeptBN (w : World) (B : Nat) (p : Option Addr) (n cap : Nat) (f : Nat → En) : Prop where
  box : w.cell? ⟨B, 0, none⟩ = some (.slice p n cap)
  row : Rw 4 cellsN w (.slice p n cap) (linJ n f)
/-- The last t numbers, from the last one on. -/
def zsBN (n : Nat) (f : Nat → En) (t : Nat) : List (Nat × En) := (List.range t).map fun s => (n - 1 - s, f (n - 1 - s))
theorem zsB_nextN (n : Nat) (f : Nat → En) (t : Nat) : zsBN n f (t + 1) = zsBN n f t ++ [(n - 1 - t, f (n - 1 - t))] := by
  unfold zsBN
  rw [List.range_succ, List.map_append]
  rfl
theorem rq_atN {w : World} {p : Option Addr} {n cap : Nat} {f : Nat → En} (h : Rq 4 cellsN w (.slice p n cap) (linJ n f)) {i : Nat} (hi : i < n) : ∃ b o, p = some ⟨b, o, none⟩ ∧ ∀ j v, (cellsN (f i))[j]? = some v → w.cell? ⟨b, o + i * 4 + j, none⟩ = some v := by
  rcases h with ⟨p', cap', e, hx, _⟩ | ⟨b, o, cap', e, hc, hb, hx⟩
  · have := congrArg List.length hx
    rw [linJ_len] at this
    simp at this
    omega
  · simp only [Value.slice.injEq] at e
    exact ⟨b, o, e.1, fun j v hj => hx i _ (linJ_get _ hi) j v hj⟩
set_option maxRecDepth 100000 in
set_option maxHeartbeats 2000000 in
theorem iterBN (m l B n : Nat) (p : Option Addr) (cap : Nat) (f : Nat → En) (Kp : World → World → Prop) (hKp : ∀ {A C : World}, KeptBN A B p n cap f → Kp A C → KeptBN C B p n cap f) (J Jx : List (Nat × En) → World → Prop) (W : World) (hn : n ≤ 1000)
    (hY : ∀ pre x W0 W1, J pre W0 → (W1 = W0 ∧ pre = zsBN n f pre.length ∧ x = (n - 1 - pre.length, f (n - 1 - pre.length))) → pre.length < n → YieldAt Fence.wide (m - 1) Tryz.prog l #[.int .i64 x.1, enV x.2] W1 fun e W' =>
      (e = .returned (.bool true) ∧ J (pre ++ [x]) W' ∧ Kp W1 W') ∨ (e = .returned (.bool false) ∧ Jx (pre ++ [x]) W'))
    (hP : KeptBN W B p n cap f) (h0 : J [] W) :
    CallsIn Fence.wide m Tryz.prog 143 #[.func (.yield l) #[] #[], .pointer (some ⟨B, 0, none⟩)] W fun e W' => (∃ v, e = .returned v) ∧
      ((∃ zs : List (Nat × En), zs = zsBN n f n ∧ J zs W') ∨ (∃ pre : List (Nat × En), pre.length ≤ n ∧ Jx pre W')) := by
  have HP := hideP hP
  have c0 := hP.box
  clear hP
  refine callsIn_of_wp Tryz.func143 rfl trivial ?_ rfl
  simp only [Tryz.ntmps143, List.size_toArray, List.length_cons, List.length_nil, Nat.reduceAdd, Nat.reduceSub, Array.replicate_succ, Array.replicate_zero, List.push_toArray, List.append_toArray, List.nil_append, List.cons_append]
  have WN : IntKind.i64.wrap ((n : Int) - 1) = (n : Int) - 1 := wrapS7 (by omega) (by omega)
  gi_wp2
  clear c0
  gi_loopw [3] (fun i wr => ∃ t : Nat, t ≤ n ∧ i = .int .i64 ((n : Int) - 1 - t) ∧ J (zsBN n f t) wr ∧ KeptBN wr B p n cap f) (fun i _ => (intOf i + 1).toNat)
  case atStart => exact ⟨0, Nat.zero_le _, by simp, h0, HP.out⟩
  case round =>
    obtain ⟨t, ht, rfl, hJs, hk⟩ := hrel
    have HK := hideP hk
    clear hk
    by_cases hlt : t < n
    · obtain ⟨i, hi⟩ : ∃ i : Nat, i = n - 1 - t := ⟨_, rfl⟩
      have e1 : (n : Int) - 1 - t = (i : Int) := by omega
      have e2 : IntKind.i64.wrap ((i : Int) - 1) = (i : Int) - 1 := wrapS7 (by omega) (by omega)
      have hin : i < n := by omega
      have hge : (i : Int) ≥ 0 := by omega
      rw [e1]
      obtain ⟨b, o, rfl, CX⟩ := rq_atN HK.out.row.q hin
      obtain ⟨y, hy⟩ : ∃ y, y = f i := ⟨_, rfl⟩
      rw [← hy] at CX
      have x0 : wr.cell? ⟨b, o + i * 4, none⟩ = some (.int .i64 y.v) := by simpa using CX 0 _ rfl
      have x1 : wr.cell? ⟨b, o + i * 4 + 1, none⟩ = some (.int .i64 y.l) := by simpa using CX 1 _ rfl
      have x2 : wr.cell? ⟨b, o + i * 4 + 2, none⟩ = some (.int .i64 y.h) := by simpa using CX 2 _ rfl
      have x3 : wr.cell? ⟨b, o + i * 4 + 3, none⟩ = some (.bool y.bad) := by simpa using CX 3 _ rfl
      have c0 := HK.out.box
      have hlen : (zsBN n f t).length = t := by simp [zsBN]
      obtain ⟨fn, tmps, assign, body, hyd, hR2⟩ := hY (zsBN n f t) (i, y) wr wr hJs ⟨rfl, by rw [hlen], by rw [hlen, ← hi, hy]⟩ (by omega)
      dsimp only at hyd
      have hR3 : RoundIn Fence.wide (m - 1) Tryz.prog l fn tmps assign body wr fun e W' => ∃ r : Bool, e = .returned (.bool r) ∧ ((r = true ∧ J (zsBN n f (t + 1)) W' ∧ Kp wr W') ∨ (r = false ∧ Jx (zsBN n f (t + 1)) W')) := by
        refine hR2.mono ?_
        rw [zsB_nextN, ← hi, ← hy]
        rintro e W' (⟨rfl, h1, h2⟩ | ⟨rfl, h1⟩)
        · exact ⟨true, rfl, .inl ⟨rfl, h1, h2⟩⟩
        · exact ⟨false, rfl, .inr ⟨rfl, h1⟩⟩
      have HI := hideP hi
      clear CX hR2 hy e1 hi
      gi_wp2_with fail
      refine ⟨fun h => (by cases h), ?_⟩
      refine hR3.mono ?_
      rintro e W3 ⟨r, rfl, hr⟩
      clear c0 x0 x1 x2 x3 hR3 hyd
      rcases hr with ⟨rfl, hJ3, hk3⟩ | ⟨rfl, hJx3⟩
      · have HK3 := hideP (hKp HK.out hk3)
        gi_wp2
        go_roundw
        case rel => exact ⟨t + 1, by omega, by first | rfl | (congr 1; have := HI.out; omega), hJ3, HK3.out⟩
        case measure => simp [intOf] <;> omega
      · gi_wp2
        refine bodyPost_ret (results_none rfl _ _ _) rfl ?_
        exact ⟨⟨_, rfl⟩, .inr ⟨_, by simp [zsBN] <;> omega, hJx3⟩⟩
    · obtain rfl : t = n := by omega
      have e1 : (t : Int) - 1 - t = -1 := by omega
      rw [e1]
      have HJ := hideP hJs
      clear hJs
      gi_wp2
      go_end0
      exact ⟨⟨_, rfl⟩, .inl ⟨_, rfl, HJ.out⟩⟩
theorem seqBN (m B n : Nat) (p : Option Addr) (cap : Nat) (f : Nat → En) (Kp : World → World → Prop) (hKp : ∀ {A C : World}, KeptBN A B p n cap f → Kp A C → KeptBN C B p n cap f) (w : World) (hn : n ≤ 1000) (hP : ∀ W, Bl w W → KeptBN W B p n cap f) :
    SeqV Fence.wide m Tryz.prog 143 #[.pointer (some ⟨B, 0, none⟩)] (fun x : Nat × En => #[.int .i64 x.1, enV x.2]) (fun x W0 W1 => W1 = W0 ∧ x.1 < n) Kp (fun zs => zs = zsBN n f n) (fun pre => pre.length ≤ n) n w :=
  fun l J Jx W hW hJ _ hY h0 => iterBN m l B n p cap f Kp hKp J Jx W hn (fun pre x W0 W1 h1 h2 h3 => hY pre x W0 W1 h1 ⟨h2.1, by rw [h2.2.2]; show n - 1 - pre.length < n; omega⟩ h3) (hP W hW) h0
theorem backwardN (n : Nat) (p : Option Addr) (cap : Nat) (f : Nat → En) (w : World) (h : Rw 4 cellsN w (.slice p n cap) (linJ n f)) :
    Calls Tryz.prog 118 #[.slice p n cap] w fun e w' => e = .returned (.func (.func 143) #[] #[.pointer (some ⟨w.heap.size, 0, none⟩)]) ∧ KeptBN w' w.heap.size p n cap f ∧ w' = w.alloc (.cells #[.slice p n cap] 46) := by
  go_enter Tryz.func118, Tryz.ntmps118
  go_wp2
  go_ret
  exact ⟨rfl, ⟨by simp [go_sem], h.later ((Bl.refl _).alloc _)⟩, rfl⟩
end Go.Proofs.YtljmggemdkfbiaaGreat

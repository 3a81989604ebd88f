/- SumResidue: with its own sum behind it, all bytes have one and the same sum. Written by genSu.py. -/
import Derived.Test.YtljmggemdkfbiaaDoorSu6
namespace Go.Proofs.YtljmggemdkfbiaaDoor
open Go.RowKit
set_option linter.unusedSimpArgs false
set_option linter.unusedVariables false

set_option maxRecDepth 100000 in
set_option maxHeartbeats 4000000 in
theorem walk_SumResidue (v : Value) (xs : List Nat) (w : World) (h : ByIn w v xs) (ht : HalfTab w) :
    Calls Tryd.prog 6 #[v] w fun e w' => e = .returned (.bool true) ∧ Bl w w' := by
  have fm : Tryd.prog.follows .mixedOrders = true := by kernel_rfl
  have egU := enters_of Tryd.func11 (by kernel_rfl) rfl
  have egR := enters_of Tryd.func10 (by kernel_rfl) rfl
  have egA := enters_of Tryd.func8 (by kernel_rfl) rfl
  obtain ⟨hr, hx, hl⟩ := h
  obtain ⟨p, cap, rfl⟩ := rq_val hr
  have AW := hideP (fun u (hu : Bl w u) => awake11_any u (ht.later hu))
  have A1 := hideP (fun hl => of_any _ _ w hr hx hl ht)
  have hS := sumOf_lt hx
  have UP := hideP (fun u v (hu : Bl w u) (hq : Rq 1 cB u v [sumOf xs % 256, sumOf xs / 256 % 256, sumOf xs / 65536 % 256, sumOf xs / 16777216 % 256]) => by
    have := update_any v _ (sumOf xs) u hq (by intro x hx; simp at hx; omega) (by simp) hS (ht.later hu)
    rw [residue_at hS] at this
    exact this)
  have RO := hideP (fun u v (hq : Rq 1 cB u v [0, 0, 0, 0]) => refOf_any v _ u hq (by decide) (by decide))
  clear hr hx ht
  obtain ⟨n, hn⟩ : ∃ n, n = xs.length := ⟨_, rfl⟩
  rw [← hn] at A1 hl ⊢
  clear hn
  by_cases hb : 3000 < n
  · clear A1 UP RO
    go_enter Tryd.func6, Tryd.ntmps6
    go_wp2_with fail
    refine (AW.out _ (Bl.refl _)).mono ?_
    rintro e w1 ⟨rfl, h1⟩
    go_wp2
    go_ret
    exact ⟨rfl, h1⟩
  · have B1 := hideP (A1.out (by omega))
    clear A1
    generalize sumOf xs = S at *
    generalize sumOf [0, 0, 0, 0] = R at *
    have e0 := wrap_u8_0 S
    have e1 := wrap_u8_0 (S / 256)
    have e2 := wrap_u8_0 (S / 65536)
    have e3 := wrap_u8_0 (S / 16777216)
    generalize hb0 : S % 256 = b0 at *
    generalize hb1 : S / 256 % 256 = b1 at *
    generalize hb2 : S / 65536 % 256 = b2 at *
    generalize hb3 : S / 16777216 % 256 = b3 at *
    have q1 : (S : Int) / 256 = ((S / 256 : Nat) : Int) := by omega
    have q2 : (S : Int) / 65536 = ((S / 65536 : Nat) : Int) := by omega
    have q3 : (S : Int) / 16777216 = ((S / 16777216 : Nat) : Int) := by omega
    generalize S / 256 = s1 at *
    generalize S / 65536 = s2 at *
    generalize S / 16777216 = s3 at *
    have E := hideP (And.intro e0 (And.intro e1 (And.intro e2 (And.intro e3 (And.intro q1 (And.intro q2 q3))))))
    clear e0 e1 e2 e3 q1 q2 q3 hb0 hb1 hb2 hb3 hS
    go_enter Tryd.func6, Tryd.ntmps6
    go_wp2_with fail
    refine B1.out.mono ?_
    rintro e w1 ⟨rfl, rfl⟩
    go_wp2_with fail
    obtain ⟨e0, e1, e2, e3, q1, q2, q3⟩ := E.out
    refine (wpIn_wide (n := 8)).1 (region_g fm (fun x y => Bl x y) [some 10, some 11, some 12, some 13, some 14, some 15, some 16, some 17, some 18, some 19, some 20, some 21, some 22, some 23, some 24, some 25, some 26, some 27, some 28, some 29, some 2] (by kernel_rfl) (by rfl) ((Bl.refl _).drew) (fun h k => h.trans k)
        (fun j v u => match j with | 0 => v = .int .u32 (S : Nat) | 1 => v = .int .u32 (S : Nat) | 2 => v = .int .u8 (b0 : Nat) | 3 => v = .int .u32 (S : Nat) | 4 => v = .int .u32 (s1 : Nat) | 5 => v = .int .u8 (b1 : Nat) | 6 => v = .int .u32 (S : Nat) | 7 => v = .int .u32 (s2 : Nat) | 8 => v = .int .u8 (b2 : Nat) | 9 => v = .int .u32 (S : Nat) | 10 => v = .int .u32 (s3 : Nat) | 11 => v = .int .u8 (b3 : Nat) | 12 => ∃ g, v = .slice (some ⟨g, 0, none⟩) 4 4 ∧ Rq 1 cB u (.slice (some ⟨g, 0, none⟩) 4 4) [b0, b1, b2, b3] | 13 => v = .int .u32 (R : Nat) | 14 => ∃ g, v = .slice (some ⟨g, 0, none⟩) 4 4 ∧ Rq 1 cB u (.slice (some ⟨g, 0, none⟩) 4 4) [0, 0, 0, 0] | 15 => v = .int .u32 (R : Nat) | 16 => v = .bool true | 17 => v = .bool true | 18 => v = .bool true | 19 => v = .bool true | 20 => v = .bool true | _ => False)
        (by
          intro j v u u' _ hb h
          split at h <;> first | exact h | (obtain ⟨g, e, h1⟩ := h; exact ⟨g, e, h1.later hb⟩))
        (by
            intro j o g b v u ho hg hf
            have hj : j < 21 := (Array.getElem?_eq_some_iff.1 ho).1
            rcases (by omega : j = 0 ∨ j = 1 ∨ j = 2 ∨ j = 3 ∨ j = 4 ∨ j = 5 ∨ j = 6 ∨ j = 7 ∨ j = 8 ∨ j = 9 ∨ j = 10 ∨ j = 11 ∨ j = 12 ∨ j = 13 ∨ j = 14 ∨ j = 15 ∨ j = 16 ∨ j = 17 ∨ j = 18 ∨ j = 19 ∨ j = 20) with rfl | rfl | rfl | rfl | rfl | rfl | rfl | rfl | rfl | rfl | rfl | rfl | rfl | rfl | rfl | rfl | rfl | rfl | rfl | rfl | rfl
            · simp only [List.getElem?_toArray, List.getElem?_cons_zero, List.getElem?_cons_succ, Option.some.injEq] at ho
              subst ho
              cases hg
            · simp only [List.getElem?_toArray, List.getElem?_cons_zero, List.getElem?_cons_succ, Option.some.injEq] at ho
              subst ho
              cases hg
            · simp only [List.getElem?_toArray, List.getElem?_cons_zero, List.getElem?_cons_succ, Option.some.injEq] at ho
              subst ho
              cases hg
            · simp only [List.getElem?_toArray, List.getElem?_cons_zero, List.getElem?_cons_succ, Option.some.injEq] at ho
              subst ho
              cases hg
            · simp only [List.getElem?_toArray, List.getElem?_cons_zero, List.getElem?_cons_succ, Option.some.injEq] at ho
              subst ho
              cases hg
            · simp only [List.getElem?_toArray, List.getElem?_cons_zero, List.getElem?_cons_succ, Option.some.injEq] at ho
              subst ho
              cases hg
            · simp only [List.getElem?_toArray, List.getElem?_cons_zero, List.getElem?_cons_succ, Option.some.injEq] at ho
              subst ho
              cases hg
            · simp only [List.getElem?_toArray, List.getElem?_cons_zero, List.getElem?_cons_succ, Option.some.injEq] at ho
              subst ho
              cases hg
            · simp only [List.getElem?_toArray, List.getElem?_cons_zero, List.getElem?_cons_succ, Option.some.injEq] at ho
              subst ho
              cases hg
            · simp only [List.getElem?_toArray, List.getElem?_cons_zero, List.getElem?_cons_succ, Option.some.injEq] at ho
              subst ho
              cases hg
            · simp only [List.getElem?_toArray, List.getElem?_cons_zero, List.getElem?_cons_succ, Option.some.injEq] at ho
              subst ho
              cases hg
            · simp only [List.getElem?_toArray, List.getElem?_cons_zero, List.getElem?_cons_succ, Option.some.injEq] at ho
              subst ho
              cases hg
            · simp only [List.getElem?_toArray, List.getElem?_cons_zero, List.getElem?_cons_succ, Option.some.injEq] at ho
              subst ho
              cases hg
            · simp only [List.getElem?_toArray, List.getElem?_cons_zero, List.getElem?_cons_succ, Option.some.injEq] at ho
              subst ho
              cases hg
            · simp only [List.getElem?_toArray, List.getElem?_cons_zero, List.getElem?_cons_succ, Option.some.injEq] at ho
              subst ho
              cases hg
            · simp only [List.getElem?_toArray, List.getElem?_cons_zero, List.getElem?_cons_succ, Option.some.injEq] at ho
              subst ho
              cases hg
            · simp only [List.getElem?_toArray, List.getElem?_cons_zero, List.getElem?_cons_succ, Option.some.injEq] at ho
              subst ho
              cases hg
            · simp only [List.getElem?_toArray, List.getElem?_cons_zero, List.getElem?_cons_succ, Option.some.injEq] at ho
              subst ho
              cases hg
            · simp only [List.getElem?_toArray, List.getElem?_cons_zero, List.getElem?_cons_succ, Option.some.injEq] at ho
              subst ho
              cases hg
              exact hf
            · simp only [List.getElem?_toArray, List.getElem?_cons_zero, List.getElem?_cons_succ, Option.some.injEq] at ho
              subst ho
              cases hg
            · simp only [List.getElem?_toArray, List.getElem?_cons_zero, List.getElem?_cons_succ, Option.some.injEq] at ho
              subst ho
              cases hg
            ) ?step ?fin)
    case step =>
      intro j o act u ho hsz hu hfr hin hnon
      have hj : j < 21 := (Array.getElem?_eq_some_iff.1 ho).1
      skip
      rcases (by omega : j = 0 ∨ j = 1 ∨ j = 2 ∨ j = 3 ∨ j = 4 ∨ j = 5 ∨ j = 6 ∨ j = 7 ∨ j = 8 ∨ j = 9 ∨ j = 10 ∨ j = 11 ∨ j = 12 ∨ j = 13 ∨ j = 14 ∨ j = 15 ∨ j = 16 ∨ j = 17 ∨ j = 18 ∨ j = 19 ∨ j = 20) with rfl | rfl | rfl | rfl | rfl | rfl | rfl | rfl | rfl | rfl | rfl | rfl | rfl | rfl | rfl | rfl | rfl | rfl | rfl | rfl | rfl
      · simp only [List.getElem?_toArray, List.getElem?_cons_zero, List.getElem?_cons_succ, Option.some.injEq] at ho
        subst ho
        have i3 : act.eval (.tmp (3 : Nat)) = .int .u32 (S : Nat) := hfr 3 (by decide)
        exact plain_wp (by intro c h; cases h) (fun _ _ => trivial) (by simp only [execOp, i3, evalC, evalF, evalG]; simp [go_sem]) ⟨_, rfl, rfl, Bl.refl _⟩
      · simp only [List.getElem?_toArray, List.getElem?_cons_zero, List.getElem?_cons_succ, Option.some.injEq] at ho
        subst ho
        have i3 : act.eval (.tmp (3 : Nat)) = .int .u32 (S : Nat) := hfr 3 (by decide)
        exact plain_wp (by intro c h; cases h) (fun _ _ => trivial) (by simp only [execOp, i3, evalC, evalF, evalG]; simp [go_sem]) ⟨_, rfl, rfl, Bl.refl _⟩
      · simp only [List.getElem?_toArray, List.getElem?_cons_zero, List.getElem?_cons_succ, Option.some.injEq] at ho
        subst ho
        have i11 : (act.eval (.tmp (11 : Nat))) = .int .u32 (S : Nat) := hin ⟨1, .data⟩ (by simp) rfl 11 rfl
        exact plain_wp (by intro c h; cases h) (fun _ _ => trivial) (by simp only [execOp, i11]; simp [go_sem, e0]) ⟨_, rfl, rfl, Bl.refl _⟩
      · simp only [List.getElem?_toArray, List.getElem?_cons_zero, List.getElem?_cons_succ, Option.some.injEq] at ho
        subst ho
        have i3 : act.eval (.tmp (3 : Nat)) = .int .u32 (S : Nat) := hfr 3 (by decide)
        exact plain_wp (by intro c h; cases h) (fun _ _ => trivial) (by simp only [execOp, i3, evalC, evalF, evalG]; simp [go_sem]) ⟨_, rfl, rfl, Bl.refl _⟩
      · simp only [List.getElem?_toArray, List.getElem?_cons_zero, List.getElem?_cons_succ, Option.some.injEq] at ho
        subst ho
        have i13 : (act.eval (.tmp (13 : Nat))) = .int .u32 (S : Nat) := hin ⟨3, .data⟩ (by simp) rfl 13 rfl
        exact plain_wp (by intro c h; cases h) (fun _ _ => trivial) (by simp only [execOp, i13, evalC]; simp [go_sem, q1]) ⟨_, rfl, rfl, Bl.refl _⟩
      · simp only [List.getElem?_toArray, List.getElem?_cons_zero, List.getElem?_cons_succ, Option.some.injEq] at ho
        subst ho
        have i14 : (act.eval (.tmp (14 : Nat))) = .int .u32 (s1 : Nat) := hin ⟨4, .data⟩ (by simp) rfl 14 rfl
        exact plain_wp (by intro c h; cases h) (fun _ _ => trivial) (by simp only [execOp, i14]; simp [go_sem, e1]) ⟨_, rfl, rfl, Bl.refl _⟩
      · simp only [List.getElem?_toArray, List.getElem?_cons_zero, List.getElem?_cons_succ, Option.some.injEq] at ho
        subst ho
        have i3 : act.eval (.tmp (3 : Nat)) = .int .u32 (S : Nat) := hfr 3 (by decide)
        exact plain_wp (by intro c h; cases h) (fun _ _ => trivial) (by simp only [execOp, i3, evalC, evalF, evalG]; simp [go_sem]) ⟨_, rfl, rfl, Bl.refl _⟩
      · simp only [List.getElem?_toArray, List.getElem?_cons_zero, List.getElem?_cons_succ, Option.some.injEq] at ho
        subst ho
        have i16 : (act.eval (.tmp (16 : Nat))) = .int .u32 (S : Nat) := hin ⟨6, .data⟩ (by simp) rfl 16 rfl
        exact plain_wp (by intro c h; cases h) (fun _ _ => trivial) (by simp only [execOp, i16, evalC]; simp [go_sem, q2]) ⟨_, rfl, rfl, Bl.refl _⟩
      · simp only [List.getElem?_toArray, List.getElem?_cons_zero, List.getElem?_cons_succ, Option.some.injEq] at ho
        subst ho
        have i17 : (act.eval (.tmp (17 : Nat))) = .int .u32 (s2 : Nat) := hin ⟨7, .data⟩ (by simp) rfl 17 rfl
        exact plain_wp (by intro c h; cases h) (fun _ _ => trivial) (by simp only [execOp, i17]; simp [go_sem, e2]) ⟨_, rfl, rfl, Bl.refl _⟩
      · simp only [List.getElem?_toArray, List.getElem?_cons_zero, List.getElem?_cons_succ, Option.some.injEq] at ho
        subst ho
        have i3 : act.eval (.tmp (3 : Nat)) = .int .u32 (S : Nat) := hfr 3 (by decide)
        exact plain_wp (by intro c h; cases h) (fun _ _ => trivial) (by simp only [execOp, i3, evalC, evalF, evalG]; simp [go_sem]) ⟨_, rfl, rfl, Bl.refl _⟩
      · simp only [List.getElem?_toArray, List.getElem?_cons_zero, List.getElem?_cons_succ, Option.some.injEq] at ho
        subst ho
        have i19 : (act.eval (.tmp (19 : Nat))) = .int .u32 (S : Nat) := hin ⟨9, .data⟩ (by simp) rfl 19 rfl
        exact plain_wp (by intro c h; cases h) (fun _ _ => trivial) (by simp only [execOp, i19, evalC]; simp [go_sem, q3]) ⟨_, rfl, rfl, Bl.refl _⟩
      · simp only [List.getElem?_toArray, List.getElem?_cons_zero, List.getElem?_cons_succ, Option.some.injEq] at ho
        subst ho
        have i20 : (act.eval (.tmp (20 : Nat))) = .int .u32 (s3 : Nat) := hin ⟨10, .data⟩ (by simp) rfl 20 rfl
        exact plain_wp (by intro c h; cases h) (fun _ _ => trivial) (by simp only [execOp, i20]; simp [go_sem, e3]) ⟨_, rfl, rfl, Bl.refl _⟩
      · simp only [List.getElem?_toArray, List.getElem?_cons_zero, List.getElem?_cons_succ, Option.some.injEq] at ho
        subst ho
        have i12 : (act.eval (.tmp (12 : Nat))) = .int .u8 (b0 : Nat) := hin ⟨2, .data⟩ (by simp) rfl 12 rfl
        have i15 : (act.eval (.tmp (15 : Nat))) = .int .u8 (b1 : Nat) := hin ⟨5, .data⟩ (by simp) rfl 15 rfl
        have i18 : (act.eval (.tmp (18 : Nat))) = .int .u8 (b2 : Nat) := hin ⟨8, .data⟩ (by simp) rfl 18 rfl
        have i21 : (act.eval (.tmp (21 : Nat))) = .int .u8 (b3 : Nat) := hin ⟨11, .data⟩ (by simp) rfl 21 rfl
        exact plain_wp (by intro c h; cases h) (fun _ _ => trivial) (by simp only [execOp, i12, i15, i18, i21, List.map_toArray, List.map_cons, List.map_nil]; rw [Sem.run_bind, Tryd.build4B]; rfl) ⟨_, rfl, ⟨u.heap.size, rfl, rq_four b0 b1 b2 b3 u⟩, (Bl.refl _).alloc _⟩
      · simp only [List.getElem?_toArray, List.getElem?_cons_zero, List.getElem?_cons_succ, Option.some.injEq] at ho
        subst ho
        have i10 : (act.eval (.tmp (10 : Nat))) = .int .u32 (S : Nat) := hin ⟨0, .data⟩ (by simp) rfl 10 rfl
        have i22 : ∃ g, (act.eval (.tmp (22 : Nat))) = .slice (some ⟨g, 0, none⟩) 4 4 ∧ Rq 1 cB u (.slice (some ⟨g, 0, none⟩) 4 4) [b0, b1, b2, b3] := hin ⟨12, .data⟩ (by simp) rfl 22 rfl
        obtain ⟨g0, hg0, hq⟩ := i22
        refine enter_wpS 11 #[.int .u32 (S : Nat), .slice (some ⟨g0, 0, none⟩) 4 4] (by intro c h; cases h) (fun _ _ => trivial) (by simp only [execOp, evalC, evalF, evalG, resolve, i10, hg0, List.map_toArray, List.map_cons, List.map_nil]; simp [invoke, egU, Result.andThen, go_sem]) (by intro h; cases h) (callsIn_wide.2 (UP.out u _ hu hq)) ?_
        rintro e w' ⟨rfl, rfl⟩
        exact ⟨_, rfl, _, rfl, rfl, Bl.refl _⟩
      · simp only [List.getElem?_toArray, List.getElem?_cons_zero, List.getElem?_cons_succ, Option.some.injEq] at ho
        subst ho
        obtain ⟨u', hr, hq⟩ := make_zeroB 4 (by omega) u
        exact plain_wp (by intro c h; cases h) (fun _ _ => trivial) (w' := u') (v := .slice (some ⟨u.heap.size, 0, none⟩) 4 4) (by simp only [execOp, evalC]; rw [Sem.run_bind, show (Value.int .i64 4) = .int .i64 ((4 : Nat) : Int) from rfl, hr]; rfl) ⟨_, rfl, ⟨u.heap.size, rfl, hq.rq⟩, hq.1⟩
      · simp only [List.getElem?_toArray, List.getElem?_cons_zero, List.getElem?_cons_succ, Option.some.injEq] at ho
        subst ho
        have i24 : ∃ g, (act.eval (.tmp (24 : Nat))) = .slice (some ⟨g, 0, none⟩) 4 4 ∧ Rq 1 cB u (.slice (some ⟨g, 0, none⟩) 4 4) [0, 0, 0, 0] := hin ⟨14, .data⟩ (by simp) rfl 24 rfl
        obtain ⟨g0, hg0, hq⟩ := i24
        refine enter_wpS 10 #[.slice (some ⟨g0, 0, none⟩) 4 4] (by intro c h; cases h) (fun _ _ => trivial) (by simp only [execOp, evalC, evalF, evalG, resolve, hg0, List.map_toArray, List.map_cons, List.map_nil]; simp [invoke, egR, Result.andThen, go_sem]) (by intro h; cases h) (callsIn_wide.2 (RO.out u _ hq)) ?_
        rintro e w' ⟨rfl, rfl⟩
        exact ⟨_, rfl, _, rfl, rfl, Bl.refl _⟩
      · simp only [List.getElem?_toArray, List.getElem?_cons_zero, List.getElem?_cons_succ, Option.some.injEq] at ho
        subst ho
        have i23 : (act.eval (.tmp (23 : Nat))) = .int .u32 (R : Nat) := hin ⟨13, .data⟩ (by simp) rfl 23 rfl
        have i25 : (act.eval (.tmp (25 : Nat))) = .int .u32 (R : Nat) := hin ⟨15, .data⟩ (by simp) rfl 25 rfl
        exact plain_wp (by intro c h; cases h) (fun _ _ => trivial) (by simp only [execOp, i23, i25, evalC, evalF, evalG]; simp [go_sem]) ⟨_, rfl, rfl, Bl.refl _⟩
      · simp only [List.getElem?_toArray, List.getElem?_cons_zero, List.getElem?_cons_succ, Option.some.injEq] at ho
        subst ho
        have i26 : (act.eval (.tmp (26 : Nat))) = .bool true := hin ⟨16, .data⟩ (by simp) rfl 26 rfl
        exact plain_wp (by intro c h; cases h) (fun _ _ => trivial) (by simp only [execOp, i26, evalC, evalF, evalG]; simp [go_sem]) ⟨_, rfl, rfl, Bl.refl _⟩
      · simp only [List.getElem?_toArray, List.getElem?_cons_zero, List.getElem?_cons_succ, Option.some.injEq] at ho
        subst ho
        refine enter_wpS 8 #[] (by intro c h; cases h) (fun _ _ => trivial) (by simp only [execOp, evalC, evalF, evalG, resolve, List.map_nil, List.map_toArray, List.map_cons, List.map_nil]; simp [invoke, egA, Result.andThen, go_sem]) (by intro h; cases h) (callsIn_wide.2 (AW.out u hu)) ?_
        rintro e w' ⟨rfl, hb⟩
        exact ⟨_, rfl, _, rfl, rfl, hb⟩
      · simp only [List.getElem?_toArray, List.getElem?_cons_zero, List.getElem?_cons_succ, Option.some.injEq] at ho
        subst ho
        have i27 : (act.eval (.tmp (27 : Nat))) = .bool true := hin ⟨17, .data⟩ (by simp) rfl 27 rfl
        have i28 : (act.eval (.tmp (28 : Nat))) = .bool true := hin ⟨18, .data⟩ (by simp) rfl 28 rfl
        exact plain_wp (by intro c h; cases h) (fun _ _ => trivial) (by simp only [execOp, i27, i28, evalC, evalF, evalG]; simp [go_sem]) ⟨_, rfl, rfl, Bl.refl _⟩
      · simp only [List.getElem?_toArray, List.getElem?_cons_zero, List.getElem?_cons_succ, Option.some.injEq] at ho
        subst ho
        have i29 : (act.eval (.tmp (29 : Nat))) = .bool true := hin ⟨19, .data⟩ (by simp) rfl 29 rfl
        exact plain_wp (by intro c h; cases h) (fun _ _ => trivial) (by simp only [execOp, i29, evalC, evalF, evalG]; simp [go_sem]) ⟨_, rfl, rfl, Bl.refl _⟩
    case fin =>
      intro vs u hu hin hnon
      have a0 := hin 0 10 rfl
      have a1 := hin 1 11 rfl
      have a2 := hin 2 12 rfl
      have a3 := hin 3 13 rfl
      have a4 := hin 4 14 rfl
      have a5 := hin 5 15 rfl
      have a6 := hin 6 16 rfl
      have a7 := hin 7 17 rfl
      have a8 := hin 8 18 rfl
      have a9 := hin 9 19 rfl
      have a10 := hin 10 20 rfl
      have a11 := hin 11 21 rfl
      have a12 := hin 12 22 rfl
      have a13 := hin 13 23 rfl
      have a14 := hin 14 24 rfl
      have a15 := hin 15 25 rfl
      have a16 := hin 16 26 rfl
      have a17 := hin 17 27 rfl
      have a18 := hin 18 28 rfl
      have a19 := hin 19 29 rfl
      have a20 := hin 20 2 rfl
      simp only [putL, Act.put, List.setIfInBounds_toArray, List.set_cons_zero, List.set_cons_succ, Nat.zero_add, Nat.reduceAdd, if_true, reduceIte] at a0 a1 a2 a3 a4 a5 a6 a7 a8 a9 a10 a11 a12 a13 a14 a15 a16 a17 a18 a19 a20 ⊢
      simp only [a0, a1, a2, a3, a4, a5, a6, a7, a8, a9, a10, a11, a13, a15, a16, a17, a18, a19, a20]
      clear hin hnon
      go_wp2
      go_ret
      exact ⟨rfl, hu⟩
end Go.Proofs.YtljmggemdkfbiaaDoor

/- Rows of bytes that grow; SumGoesOn. -/
import Derived.Test.YtljmggemdkfbiaaDoorSu3
import Derived.Laws.AppendOwnNone
namespace Go.Proofs.YtljmggemdkfbiaaDoor
open Go.RowKit
set_option linter.unusedSimpArgs false
set_option linter.unusedVariables false

theorem Tryd.info_B : (Tryd.prog.info? 5).map (fun i => (i.zero, i.size, i.bytes)) = some (some (.int .u8 0), 1, 1) := by kernel_rfl
theorem info_B_ex : ∃ i, Tryd.prog.info? 5 = some i ∧ i.zero = some (.int .u8 0) ∧ i.size = 1 ∧ i.bytes = 1 := by
  have h := Tryd.info_B
  cases hi : Tryd.prog.info? 5 with
  | none => rw [hi] at h; simp at h
  | some i =>
    rw [hi] at h
    simp at h
    exact ⟨i, rfl, h.1, h.2.1, h.2.2⟩
theorem flatB_len (xs : List Nat) : (xs.flatMap cB).length = xs.length * 1 := by
  induction xs with
  | nil => rfl
  | cons x xs ih => rw [List.flatMap_cons, List.length_append, ih, List.length_cons]; simp [cB]; omega
/-- A row of bytes of our own, in a block at or beyond the world w0's end. -/
def OwnB (w0 w : World) (v : Value) (xs : List Nat) : Prop := Bl w0 w ∧ w.ownsRow w0.heap.size 5 1 v xs.length (xs.flatMap cB)
theorem OwnB.rq {w0 w : World} {v : Value} {xs : List Nat} (h : OwnB w0 w v xs) : Rq 1 cB w v xs := (Rw.of_own cB_len h.2).q
theorem OwnB.empty (w0 : World) : OwnB w0 (w0.alloc (.cells #[] 5)) (.slice (some ⟨w0.heap.size, 0, none⟩) 0 0) [] := by
  refine ⟨(Bl.refl _).alloc _, rfl, .inr ⟨w0.heap.size, 0, #[], rfl, Nat.le_refl _, ?_, Nat.le_refl _, Nat.zero_le _, rfl, rfl⟩⟩
  exact Array.getElem?_push_size
theorem rq_src {w : World} {u : Value} {ys : List Nat} (h : Rq 1 cB w u ys) : u = .slice none 0 0 ∧ ys = [] ∨ ∃ ad c, u = .slice (some ad) ys.length c ∧ ∀ j x, (ys.flatMap cB)[j]? = some x → w.cell? (ad.add j) = some x := by
  rcases h with ⟨p, cap, rfl, rfl, hp⟩ | ⟨b, o, cap, rfl, _, _, hx⟩
  · cases p with
    | none => rw [hp rfl]; exact .inl ⟨rfl, rfl⟩
    | some a => exact .inr ⟨a, cap, rfl, fun j x hj => by simp at hj⟩
  · exact .inr ⟨_, cap, rfl, flat_cells cB_len hx⟩
theorem list_appB {ops : Array Oper} {rest : List Oper} {o : Oper} {a : Act} {w w0 : World} {Q : Exit → Act → World → Prop} (hgd : o.guard = none) (s x : Operand) (ho : o.op = .call { callee := .builtin .append, args := #[s, x], argTypes := #[22, 22] })
    {v u : Value} {xs ys : List Nat} (hs : a.eval s = v) (H : OwnB w0 w v xs) (hx : a.eval x = u) (hy : Rq 1 cB w u ys) (hb : xs.length + ys.length ≤ 100000)
    (h : ∀ v' w', OwnB w0 w' v' (xs ++ ys) → wpList Tryd.prog ops Q rest (a.put o.dst v') w') : wpList Tryd.prog ops Q (o :: rest) a w := by
  obtain ⟨i, hi, h0, h1, h2⟩ := info_B_ex
  rcases rq_src hy with ⟨rfl, rfl⟩ | ⟨ad, c, rfl, hc⟩
  · refine wpList_append_own_none hgd s x 22 ho w0.heap.size 5 i 1 Tryd.underlying22 hi v _ _ hs H.2 hx ?_
    have := h v w
    rw [List.append_nil] at this
    exact this H
  · refine wpList_append_own _ hgd s x 22 ho w0.heap.size 5 i (.int .u8 0) 1 1 Tryd.underlying22 hi h0 h1 h2 rfl (by decide) v _ _ hs H.2 ad ys.length c (ys.flatMap cB) hx (flatB_len ys) hc (flat_one cB_one ys) (by unfold maxLen; omega) (by omega) (Below.size H.1) ?_
    intro v' w' hown' hg _
    have hown := H.2
    refine h v' w' ⟨Below.grown H.1 hg (Below.size H.1) (fun k hk => by have := (hown.lt k hk).1; omega), ?_⟩
    rw [List.length_append, List.flatMap_append]
    exact hown'
set_option maxRecDepth 100000 in
set_option maxHeartbeats 2000000 in
theorem walk_SumGoesOn (va : Value) (xs : List Nat) (vb : Value) (ys : List Nat) (w : World) (h : ByIn w va xs) (k : ByIn w vb ys) (ht : HalfTab w) :
    Calls Tryd.prog 4 #[va, vb] w fun e w' => e = .returned (.bool true) ∧ Bl w w' := by
  obtain ⟨hr, hx, hl⟩ := h
  obtain ⟨kr, kx, kl⟩ := k
  obtain ⟨p, cap, rfl⟩ := rq_val hr
  obtain ⟨q, cb, rfl⟩ := rq_val kr
  have AW := hideP (fun u (hu : Bl w u) => awake11_any u (ht.later hu))
  obtain ⟨n, hn⟩ : ∃ n, n = xs.length := ⟨_, rfl⟩
  obtain ⟨m, hm⟩ : ∃ m, m = ys.length := ⟨_, rfl⟩
  rw [← hn] at hr hl ⊢
  rw [← hm] at kr kl ⊢
  by_cases hb : n ≤ 1000 ∧ m ≤ 1000
  · obtain ⟨hn1, hm1⟩ := hb
    have A1 := hideP (fun u (hu : Bl w u) => of_any _ _ u (hr.later hu) hx (by omega) (ht.later hu))
    have A2 := hideP (fun u (hu : Bl w u) => update_any _ _ (sumOf xs) u (kr.later hu) kx (by omega) (sumOf_lt hx) (ht.later hu))
    have A3 := hideP (fun u (hu : Bl w u) => update_any _ _ 0 u (hr.later hu) hx (by omega) (by omega) (ht.later hu))
    have A4 := hideP (fun u v (hu : Rq 1 cB u v (xs ++ ys)) => refOf_any v (xs ++ ys) u hu (fun z hz => by rcases List.mem_append.1 hz with h | h; exact hx z h; exact kx z h) (by rw [List.length_append]; omega))
    have e0 : sumFrom (0 ^^^ 4294967295) xs ^^^ 4294967295 = sumOf xs := rfl
    have e1 : sumFrom (sumOf xs ^^^ 4294967295) ys ^^^ 4294967295 = sumOf (xs ++ ys) := by
      unfold sumOf
      rw [Nat.xor_assoc, Nat.xor_self, Nat.xor_zero, sumFrom_append]
    rw [e0] at A3
    rw [e1] at A2
    clear e0 e1
    have HX := hideP hr
    have HY := hideP kr
    have hxl : xs.length ≤ 1000 := by omega
    have hyl : ys.length ≤ 1000 := by omega
    clear hr kr ht hn hm hx kx
    have OE := hideP (OwnB.empty w)
    obtain ⟨W, hW⟩ : ∃ W, W = w.alloc (.cells #[] 5) := ⟨_, rfl⟩
    rw [← hW] at OE
    have HW := hideP hW
    clear hW
    generalize hS : sumOf xs = S at *
    have HS := hideP hS
    clear hS
    generalize hT : sumOf (xs ++ ys) = T at *
    clear hT
    go_enter Tryd.func4, Tryd.ntmps4
    go_wp2_with fail
    refine (A1.out _ (Bl.refl _)).mono ?_
    rintro e w1 ⟨rfl, rfl⟩
    go_wp2_with fail
    refine (A2.out _ (Bl.refl _)).mono ?_
    rintro e w1 ⟨rfl, rfl⟩
    go_wp2_with (at_builtin; rw [← HW.out]; refine list_appB rfl (.tmp 18) (.tmp 19) rfl rfl OE.out rfl (HX.out.later OE.out.1) (by simp; omega) ?_)
    intro v1 w2 O1
    have hO1 := hideP O1
    clear O1
    go_wp2_with (at_builtin; (refine list_appB rfl (.tmp 20) (.tmp 21) rfl rfl hO1.out rfl (HY.out.later hO1.out.1) (by first | omega | (simp; omega)) ?_))
    intro v2 w3 O2
    have hO2 := hideP O2
    clear O2
    go_wp2_with fail
    refine (A4.out _ _ hO2.out.rq).mono ?_
    rintro e w4 ⟨rfl, rfl⟩
    go_wp2_with fail
    refine (A3.out _ hO2.out.1).mono ?_
    rintro e w4 ⟨rfl, rfl⟩
    go_wp2_with fail
    refine (A1.out _ hO2.out.1).mono ?_
    rintro e w4 ⟨rfl, rfl⟩
    go_wp2_with fail
    refine (AW.out _ hO2.out.1).mono ?_
    rintro e w4 ⟨rfl, h4⟩
    go_wp2
    go_ret
    exact ⟨rfl, hO2.out.1.trans h4⟩
  · have HB := hideP (show ¬ (n ≤ 1000) ∨ ¬ (m ≤ 1000) by omega)
    clear hr kr hx kx hn hm
    by_cases h1 : n ≤ 1000
    · have h2 : 1000 < m := by omega
      clear hb
      go_enter Tryd.func4, Tryd.ntmps4
      go_wp2_with fail
      refine (AW.out _ (Bl.refl _)).mono ?_
      rintro e w4 ⟨rfl, h4⟩
      go_wp2
      go_ret
      exact ⟨rfl, h4⟩
    · have h2 : 1000 < n := by omega
      clear hb
      go_enter Tryd.func4, Tryd.ntmps4
      go_wp2_with fail
      refine (AW.out _ (Bl.refl _)).mono ?_
      rintro e w4 ⟨rfl, h4⟩
      go_wp2
      go_ret
      exact ⟨rfl, h4⟩
end Go.Proofs.YtljmggemdkfbiaaDoor

/- The walk of VecPairs. -/
import Derived.Test.YtfbioinmgchdcaaVeJ
import Derived.Test.YtfbioinmgchdcaaVeEI
import Derived.Test.YtfbioinmgchdcaaVeG
namespace Go.Proofs.Ytfbioinmgchdcaa
open Go.RowKit Go.Shelf
set_option linter.unusedSimpArgs false
set_option linter.unusedVariables false
attribute [local go_sem] Oper.semAt_some

theorem Try.allI (l : Array Value) (w : World) : (binOp .eql 48 (.func (.func 45) #[] l) .nilFunc).run Try.prog w = .ok (.bool false) w := by kernel_rfl
theorem min3_run (a b c : Int) (w : World) : (Builtin.min_ #[3, 3, 3] 3 #[.int .i64 a, .int .i64 b, .int .i64 c]).run Try.prog w = .ok (.int .i64 (if c < (if b < a then b else a) then c else (if b < a then b else a))) w := by
  simp [Builtin.min_, Builtin.min2, List.foldlM, go_sem]
/-- The variables of VecPairs, k being so great; of what was there nothing has turned. -/
structure PairB (w : World) (va vb : Value) (s k : Int) (W : World) : Prop where
  a : Boxed W w.heap.size 22 va
  b : Boxed W (w.heap.size + 1) 22 vb
  s : Boxed W (w.heap.size + 1 + 1) 5 (.int .u8 s)
  r : Boxed W (w.heap.size + 1 + 1 + 1) 4 (.bool false)
  k : Boxed W (w.heap.size + 1 + 1 + 1 + 1) 3 (.int .i64 k)
  bl : Below w.heap.size w W
theorem PairB.own {w : World} {va vb : Value} {s k : Int} {X Y : World} {row : Option Nat} {B0 : Nat} (h : PairB w va vb s k X) (h0 : w.heap.size ≤ B0) (hg : X.grownBy Y row) (hr : ∀ r, row = some r → B0 ≤ r ∧ ∃ o : Obj, X.heap[r]? = some o ∧ o.isCells = false) : PairB w va vb s k Y := by
  have ob : ∀ {B : Nat} {t : TypeId} {v : Value}, Boxed X B t v → Boxed Y B t v := fun {B t v} hb => boxed_own B t (fun (_ : Unit) => v) () X Y row hb hg (fun r e => (hr r e).2)
  exact ⟨ob h.a, ob h.b, ob h.s, ob h.r, ob h.k, ownFrom_below (β := Unit) (Nat.le_refl _) h0 () X Y row h.bl hg hr⟩
theorem PairB.step {w : World} {va vb : Value} {s k : Int} {W : World} (h : PairB w va vb s k W) (k' : Int) : PairB w va vb s k' (W.setCell ⟨w.heap.size + 1 + 1 + 1 + 1, 0, none⟩ (.int .i64 k')) :=
  ⟨h.a.other (by omega) _, h.b.other (by omega) _, h.s.other (by omega) _, h.r.other (by omega) _, h.k.set _, h.bl.setCell (p := ⟨w.heap.size + 1 + 1 + 1 + 1, 0, none⟩) (by simp; omega) _⟩
/-- Between two rounds; and where a round has left. -/
def PairI (zs : List (Int × Int)) (w : World) (va vb : Value) (s : Int) (pre : List (Int × Int)) (W : World) : Prop := (pre <+: zs ∧ (pre.length : Int) ≤ s) ∧ PairB w va vb s pre.length W
def PairX (zs : List (Int × Int)) (w : World) (va vb : Value) (s : Int) (c : Code) (pre : List (Int × Int)) (W : World) : Prop := (c = .ret ∧ ¬ pre <+: zs) ∨ (c = .exit 0 ∧ (pre.length : Int) = s + 1 ∧ PairB w va vb s pre.length W)
theorem rq_at {w : World} {p : Option Addr} {cap l : Nat} {xs : List Int} (h : Rq 1 cI w (.slice p l cap) xs) {k : Nat} {x : Int} (hk : xs[k]? = some x) : ∃ b o, p = some ⟨b, o, none⟩ ∧ b < w.heap.size ∧ w.cell? ⟨b, o + k, none⟩ = some (.int .i64 x) := by
  rcases h with ⟨_, _, _, h0, _⟩ | ⟨b, o, c, e, _, hlt, HX⟩
  · rw [h0] at hk; simp at hk
  · cases e; exact ⟨b, o, rfl, hlt, cellI HX hk (wr := w)⟩
theorem prefix_snoc {α : Type} {pre zs : List α} (h : pre <+: zs) {z : α} (hz : zs[pre.length]? = some z) (x : α) : pre ++ [x] <+: zs ↔ x = z := by
  obtain ⟨t, rfl⟩ := h
  rw [List.getElem?_append_right (Nat.le_refl _), Nat.sub_self] at hz
  cases t with
  | nil => simp at hz
  | cons y t =>
    simp at hz
    subst hz
    constructor
    · rintro ⟨u, hu⟩
      rw [List.append_assoc] at hu
      have := List.append_cancel_left hu
      simp at this
      exact this.1
    · rintro rfl
      exact ⟨t, by simp⟩
set_option maxRecDepth 100000 in
set_option maxHeartbeats 400000 in
theorem pairs_main (va : Value) (xs : List Int) (vb : Value) (ys : List Int) (s : Int) (w : World) (ha : Rq 1 cI w va xs) (hb : Rq 1 cI w vb ys) (hs : 0 ≤ s ∧ s ≤ 255) (hl : xs.length ≤ 200) (hm : ys.length ≤ 200) :
    Calls Try.prog 6 #[va, vb, .int .u8 s] w fun e w' => e = .returned (.bool true) ∧ Bl w w' := by
  have AW := hideP awake5_any
  refine (callsIn_wide (n := 6)).1 ?_
  obtain ⟨p, cap, rfl, hc, _⟩ := ha.cut
  obtain ⟨q, dap, rfl, hd, _⟩ := hb.cut
  have HA := hideP ha
  have HB := hideP hb
  clear ha hb
  obtain ⟨m, hmin⟩ : ∃ m, m = min xs.length ys.length := ⟨_, rfl⟩
  have hm0 : min (xs.length : Int) (ys.length : Int) = (m : Int) := by omega
  have hm1 : (if ys.length < xs.length then (ys.length : Int) else (xs.length : Int)) = (m : Int) := by split <;> omega
  have HM := hideP hmin
  clear hmin
  have nl := fun l => Try.allI l
  refine callsIn_of_wp_marks Try.func6 rfl trivial ?_ rfl
  simp only [Try.ntmps6, List.size_toArray, List.length_cons, List.length_nil, Nat.reduceAdd, Nat.reduceSub, Array.replicate_succ, Array.replicate_zero, List.push_toArray, List.append_toArray, List.nil_append, List.cons_append]
  have d1 : decide (200 < (xs.length : Int)) = false := by simp; omega
  have d2 : decide (200 < (ys.length : Int)) = false := by simp; omega
  obtain ⟨V, hV⟩ : ∃ V, V = ((((w.alloc (.cells #[.slice p xs.length cap] 22)).alloc (.cells #[.slice q ys.length dap] 22)).alloc (.cells #[.int .u8 s] 5)).alloc (.cells #[.bool false] 4)).alloc (.cells #[.int .i64 0] 3) := ⟨_, rfl⟩
  have hBV : Bl w V := by rw [hV]; exact (((((Bl.refl _).alloc _).alloc _).alloc _).alloc _).alloc _
  have hsz : V.heap.size = w.heap.size + 1 + 1 + 1 + 1 + 1 := by rw [hV]; simp
  have bA : Boxed V w.heap.size 22 (.slice p xs.length cap) := by rw [hV]; exact ((((Boxed.new w 22 _).alloc _).alloc _).alloc _).alloc _
  have bB : Boxed V (w.heap.size + 1) 22 (.slice q ys.length dap) := by
    rw [hV]
    have := ((((Boxed.new (w.alloc (.cells #[.slice p xs.length cap] 22)) 22 (.slice q ys.length dap)).alloc (.cells #[.int .u8 s] 5)).alloc (.cells #[.bool false] 4)).alloc (.cells #[.int .i64 0] 3))
    simpa using this
  have bS : Boxed V (w.heap.size + 1 + 1) 5 (.int .u8 s) := by
    rw [hV]
    have := (((Boxed.new ((w.alloc (.cells #[.slice p xs.length cap] 22)).alloc (.cells #[.slice q ys.length dap] 22)) 5 (.int .u8 s)).alloc (.cells #[.bool false] 4)).alloc (.cells #[.int .i64 0] 3))
    simpa using this
  have bR : Boxed V (w.heap.size + 1 + 1 + 1) 4 (.bool false) := by
    rw [hV]
    have := ((Boxed.new (((w.alloc (.cells #[.slice p xs.length cap] 22)).alloc (.cells #[.slice q ys.length dap] 22)).alloc (.cells #[.int .u8 s] 5)) 4 (.bool false)).alloc (.cells #[.int .i64 0] 3))
    simpa using this
  have bK : Boxed V (w.heap.size + 1 + 1 + 1 + 1) 3 (.int .i64 0) := by
    rw [hV]
    have := Boxed.new ((((w.alloc (.cells #[.slice p xs.length cap] 22)).alloc (.cells #[.slice q ys.length dap] 22)).alloc (.cells #[.int .u8 s] 5)).alloc (.cells #[.bool false] 4)) 3 (.int .i64 0)
    simpa using this
  have PR := hideP (vPairsI _ _ xs ys V (HA.out.later hBV) (HB.out.later hBV) (by omega) (by omega))
  rw [hsz] at PR
  have HV := hideP hV
  clear hV
  gi_wp2_with (refine ⟨trivial, ?_⟩; rw [← HV.out]; refine (callsIn_wide.2 PR.out).mono ?_; rintro e w3 ⟨rfl, hP, hB3⟩)
  rw [← HM.out] at hP
  have hB3' : Bl w w3 := hBV.trans hB3
  have hs3 : w.heap.size + 1 + 1 + 1 + 1 + 1 ≤ w3.heap.size := by have := hB3.size; omega
  have PB0 : PairB w (.slice p xs.length cap) (.slice q ys.length dap) s 0 w3 := ⟨boxed_bl bA hB3, boxed_bl bB hB3, boxed_bl bS hB3, boxed_bl bR hB3, boxed_bl bK hB3, hB3'⟩
  have HPB := hideP PB0
  have HP := hideP hP
  clear bA bB bS bR bK hP PB0 hBV hB3 PR HV
  have hmx : m ≤ xs.length := by have := HM.out; omega
  have hmy : m ≤ ys.length := by have := HM.out; omega
  obtain ⟨zs, hzs⟩ : ∃ zs, zs = (xs.take m).zip (ys.take m) := ⟨_, rfl⟩
  have hzl : zs.length = m := by rw [hzs]; simp; omega
  have HZ := hideP hzs
  clear hzs
  refine wpIn_rangeFunc_ownF rfl (by omega) (gf := 45) (lb := #[.pointer (some ⟨w.heap.size + 1 + 1 + 1 + 1 + 1, 0, none⟩), .pointer (some ⟨w.heap.size + 1 + 1 + 1 + 1 + 1 + 1, 0, none⟩)]) rfl trivial (enters_of Try.func45 (by kernel_rfl) rfl)
    (seqI 5 _ _ _ w3.heap.size _ _ (by simp; omega) w3 (Nat.le_refl _) HP.out) (fun h k => h.trans k) (span_b (Nat.le_refl _)) (Below.refl _ _) (fun _ => rfl)
    (PairI zs w (.slice p xs.length cap) (.slice q ys.length dap) s)
    (PairX zs w (.slice p xs.length cap) (.slice q ys.length dap) s)
    (fun _ X Y row hs hg hr => ⟨hs.1, hs.2.own (by omega) hg hr⟩)
    (fun c _ X Y row hs hg hr => by
      rcases hs with h | ⟨h1, h2, h3⟩
      · exact .inl h
      · exact .inr ⟨h1, h2, h3.own (by omega) hg hr⟩)
    (show PairI _ _ _ _ _ _ _ from ⟨⟨List.nil_prefix, by simp; omega⟩, by simpa using HPB.out⟩)
    (fun x => { tmps := #[.slice p xs.length cap, .slice q ys.length dap, .int .u8 s, .pointer (some ⟨w.heap.size, 0, none⟩), .pointer (some ⟨w.heap.size + 1, 0, none⟩), .pointer (some ⟨w.heap.size + 1 + 1, 0, none⟩), .pointer (some ⟨w.heap.size + 1 + 1 + 1, 0, none⟩), .pointer (some ⟨w.heap.size + 1 + 1 + 1 + 1, 0, none⟩), (.func (.func 45) #[] #[.pointer (some ⟨w.heap.size + 1 + 1 + 1 + 1 + 1, 0, none⟩), .pointer (some ⟨w.heap.size + 1 + 1 + 1 + 1 + 1 + 1, 0, none⟩)]), .int .i64 x.1, .int .i64 x.2, .slice p xs.length cap, .int .i64 xs.length, .bool false, .bool false, .slice q ys.length dap, .int .i64 ys.length, .bool false, .bool false, undef, .slice p xs.length cap, .slice q ys.length dap, (.func (.func 45) #[] #[.pointer (some ⟨w.heap.size + 1 + 1 + 1 + 1 + 1, 0, none⟩), .pointer (some ⟨w.heap.size + 1 + 1 + 1 + 1 + 1 + 1, 0, none⟩)]), (.func (.func 45) #[] #[.pointer (some ⟨w.heap.size + 1 + 1 + 1 + 1 + 1, 0, none⟩), .pointer (some ⟨w.heap.size + 1 + 1 + 1 + 1 + 1 + 1, 0, none⟩)]), .bool false, (.func (.func 45) #[] #[.pointer (some ⟨w.heap.size + 1 + 1 + 1 + 1 + 1, 0, none⟩), .pointer (some ⟨w.heap.size + 1 + 1 + 1 + 1 + 1 + 1, 0, none⟩)]), .int .i64 x.1, .int .i64 x.2, undef, undef, undef, undef, undef, undef, undef, undef, undef, undef, undef, undef, undef, undef, undef, undef, undef, undef, undef, undef, undef, undef, undef, undef, undef, undef, undef, undef, undef, undef, undef, undef, undef, undef, undef, undef, undef, undef, undef, undef, undef, undef], defers := [] })
    ?assign ?body ?done ?stop
  case assign =>
    intro l x W K' hK'
    have HK2 := hideP hK'
    clear hK'
    gi_wp2
    exact HK2.out
  case body =>
    rintro l pre ⟨x, y⟩ W ⟨⟨hpre, hps⟩, hb⟩ hlt
    dsimp only
    have hk : pre.length < m := by simp at hlt; omega
    obtain ⟨x', hx'⟩ : ∃ x', xs[pre.length]? = some x' := ⟨_, List.getElem?_eq_getElem (by omega)⟩
    obtain ⟨y', hy'⟩ : ∃ y', ys[pre.length]? = some y' := ⟨_, List.getElem?_eq_getElem (by omega)⟩
    obtain ⟨b, o, rfl, hbb, cx⟩ := rq_at HA.out hx'
    obtain ⟨b', o', rfl, hbb', cy⟩ := rq_at HB.out hy'
    have cx' := (bl_cell hb.bl _ (o + pre.length) hbb).trans cx
    have cy' := (bl_cell hb.bl _ (o' + pre.length) hbb').trans cy
    have hz : zs[pre.length]? = some (x', y') := by
      rw [HZ.out, List.getElem?_zip_eq_some]
      constructor
      · rw [List.getElem?_take, if_pos hk]; exact hx'
      · rw [List.getElem?_take, if_pos hk]; exact hy'
    have HPX := hideP (prefix_snoc hpre hz (x, y))
    have ca := hb.a.cell
    have cb := hb.b.cell
    have cs := hb.s.cell
    have ck := hb.k.cell
    have fk := hb.k.frozen
    have cr := hb.r.cell
    have fr := hb.r.frozen
    have HPB2 := hideP hb
    have HPS := hideP hps
    clear cx cy hz hpre hx' hy' hb hps
    generalize hkk : pre.length = k at *
    have hg' : ¬ m ≤ k := Nat.not_le.2 hk
    have hg : decide ((m : Int) ≤ (k : Int)) = false := decide_eq_false (fun h => hg' (Int.ofNat_le.1 h))
    have h200 : k ≤ 200 := by omega
    clear hlt nl d1 d2 hzl hsz
    by_cases hx : x = x'
    · by_cases hy : y = y'
      · subst hx hy
        have bx : (x != x) = false := by simp
        have bY : (y != y) = false := by simp
        have ho : pre ++ [(x, y)] <+: zs := HPX.out.2 rfl
        have HO := hideP ho
        clear ho
        by_cases hsk : s < (k : Int) + 1
        · gi_wp2
          refine ⟨KeepsOthers.setCell _ _ _, .inr ⟨rfl, ?_, ?_⟩⟩
          · have := HPS.out; simp; omega
          · have := HPB2.out.step ((k : Int) + 1)
            simpa [hkk] using this
        · gi_wp2
          refine ⟨KeepsOthers.setCell _ _ _, ?_, ⟨HO.out, by simp; omega⟩, ?_⟩
          · exact ⟨by simp, fun j h1 h2 => Below.heap_setCell _ _ _ j (by show j ≠ w.heap.size + 1 + 1 + 1 + 1; omega)⟩
          · have := HPB2.out.step ((k : Int) + 1)
            simpa [hkk] using this
      · have bY : (y != y') = true := by simp [hy]
        have bx : (x != x') = false := by simp [hx]
        subst hx
        have hno : ¬ pre ++ [(x, y)] <+: zs := fun h => hy (by have := HPX.out.1 h; simpa using this)
        have HN := hideP hno
        clear hno
        gi_wp2
        exact ⟨KeepsOthers.setCell _ _ _, .inl ⟨rfl, HN.out⟩⟩
    · have bx : (x != x') = true := by simp [hx]
      have hno : ¬ pre ++ [(x, y)] <+: zs := fun h => hx (by have := HPX.out.1 h; simp at this; exact this.1)
      have HN := hideP hno
      clear hno
      gi_wp2
      exact ⟨KeepsOthers.setCell _ _ _, .inl ⟨rfl, HN.out⟩⟩
  case done =>
    rintro D ws W hD hws ⟨⟨hpre, hps⟩, hb⟩ hKD
    have hkm : ws.length = m := by rw [hws, ← HZ.out]; exact hzl
    rw [hkm] at hb hps
    clear hws hpre hkm
    have ca := hb.a.cell
    have cb := hb.b.cell
    have cs := hb.s.cell
    have ck := hb.k.cell
    have HPB2 := hideP hb
    have HKD := hideP hKD
    have HDD := hideP hD
    have mn : ∀ W, (Builtin.min_ #[3, 3, 3] 3 #[.int .i64 xs.length, .int .i64 ys.length, .int .i64 (s + 1)]).run Try.prog W = .ok (.int .i64 m) W := fun W => by
      rw [min3_run, show (if (ys.length : Int) < (xs.length : Int) then (ys.length : Int) else (xs.length : Int)) = (m : Int) by have := HM.out; split <;> omega, if_neg (by omega)]
    have ws : wrap64 s = s := by unfold wrap64; omega
    have ws1 : wrap64 (s + 1) = s + 1 := by unfold wrap64; omega
    clear hb hKD hD
    gi_wp2_with (refine ⟨trivial, ?_⟩; refine (callsIn_wide.2 (AW.out _)).mono ?_; rintro e w5 ⟨rfl, h5⟩; have cr5 := (boxed_bl HPB2.out.r h5).cell; have fr5 := (boxed_bl HPB2.out.r h5).frozen)
    have hK5 : w5.heap[D]? = some (.deferred (some [])) := (Below.block h5 D (Array.getElem?_eq_some_iff.1 HKD.out).1).trans HKD.out
    have hK6 := (KeepsOthers.setCell w5 ⟨w.heap.size + 1 + 1 + 1, 0, none⟩ (.bool true)).same D _ hK5 rfl
    refine ⟨by simp, .inl ⟨_, _, rfl, run_takeDeferred hK6, ?_⟩⟩
    have hc6 := cell_kept (World.cell?_setCell_same' w5 ⟨w.heap.size + 1 + 1 + 1, 0, none⟩ (.bool true) (by rw [cr5]; rfl)) (grownBy_putObj' _ D (.deferred none)) (fun r e => by cases e; exact ⟨_, hK6, rfl⟩)
    refine ⟨.bool true, ?_, rfl, ?_⟩
    · simp [results, Try.f6, go_sem, hc6]
    · have t1 : Below w.heap.size w w5 := HPB2.out.bl.trans (h5.mono HPB2.out.bl.size)
      have t2 := t1.setCell (p := ⟨w.heap.size + 1 + 1 + 1, 0, none⟩) (by simp; omega) (.bool true)
      exact t2.trans (belowK_b (w := w) (Nat.le_refl _) _ D _ _ (by have := HDD.out; omega) hK6 rfl rfl)
  case stop =>
    rintro D c pre W hD hpre (⟨rfl, hno⟩ | ⟨rfl, hlen, hb⟩) hKD
    · exact absurd (by rw [HZ.out]; exact hpre) hno
    · have hle : pre.length ≤ m := by have := hpre.length_le; rw [← HZ.out, hzl] at this; exact this
      rw [hlen] at hb
      have hsm : s + 1 ≤ (m : Int) := by omega
      clear hpre hlen hle
      have ca := hb.a.cell
      have cb := hb.b.cell
      have cs := hb.s.cell
      have ck := hb.k.cell
      have HPB2 := hideP hb
      have HKD := hideP hKD
      have HDD := hideP hD
      have mn : ∀ W, (Builtin.min_ #[3, 3, 3] 3 #[.int .i64 xs.length, .int .i64 ys.length, .int .i64 (s + 1)]).run Try.prog W = .ok (.int .i64 (s + 1)) W := fun W => by
        rw [min3_run, show (if (ys.length : Int) < (xs.length : Int) then (ys.length : Int) else (xs.length : Int)) = (m : Int) by have := HM.out; split <;> omega]
        split
        · rfl
        · rw [show (m : Int) = s + 1 by omega]
      have ws : wrap64 s = s := by unfold wrap64; omega
      have ws1 : wrap64 (s + 1) = s + 1 := by unfold wrap64; omega
      clear hb hKD hD
      gi_wp2_with (refine ⟨trivial, ?_⟩; refine (callsIn_wide.2 (AW.out _)).mono ?_; rintro e w5 ⟨rfl, h5⟩; have cr5 := (boxed_bl HPB2.out.r h5).cell; have fr5 := (boxed_bl HPB2.out.r h5).frozen)
      have hK5 : w5.heap[D]? = some (.deferred (some [])) := (Below.block h5 D (Array.getElem?_eq_some_iff.1 HKD.out).1).trans HKD.out
      have hK6 := (KeepsOthers.setCell w5 ⟨w.heap.size + 1 + 1 + 1, 0, none⟩ (.bool true)).same D _ hK5 rfl
      refine ⟨by simp, .inl ⟨_, _, rfl, run_takeDeferred hK6, ?_⟩⟩
      have hc6 := cell_kept (World.cell?_setCell_same' w5 ⟨w.heap.size + 1 + 1 + 1, 0, none⟩ (.bool true) (by rw [cr5]; rfl)) (grownBy_putObj' _ D (.deferred none)) (fun r e => by cases e; exact ⟨_, hK6, rfl⟩)
      refine ⟨.bool true, ?_, rfl, ?_⟩
      · simp [results, Try.f6, go_sem, hc6]
      · have t1 : Below w.heap.size w w5 := HPB2.out.bl.trans (h5.mono HPB2.out.bl.size)
        have t2 := t1.setCell (p := ⟨w.heap.size + 1 + 1 + 1, 0, none⟩) (by simp; omega) (.bool true)
        exact t2.trans (belowK_b (w := w) (Nat.le_refl _) _ D _ _ (by have := HDD.out; omega) hK6 rfl rfl)
set_option maxRecDepth 100000 in
set_option maxHeartbeats 1000000 in
theorem pairs_out (p q : Option Addr) (la lb cap dap : Nat) (s : Int) (w : World) (h : 200 < la ∨ (¬ 200 < la ∧ 200 < lb)) :
    Calls Try.prog 6 #[.slice p la cap, .slice q lb dap, .int .u8 s] w fun e w' => e = .returned (.bool true) ∧ Bl w w' := by
  have AW := hideP awake5_any
  obtain ⟨V, hV⟩ : ∃ V, V = (((w.alloc (.cells #[.slice p la cap] 22)).alloc (.cells #[.slice q lb dap] 22)).alloc (.cells #[.int .u8 s] 5)).alloc (.cells #[.bool false] 4) := ⟨_, rfl⟩
  have hBV : Bl w V := by rw [hV]; exact ((((Bl.refl _).alloc _).alloc _).alloc _).alloc _
  have bR : Boxed V (w.heap.size + 1 + 1 + 1) 4 (.bool false) := by
    rw [hV]
    have := Boxed.new (((w.alloc (.cells #[.slice p la cap] 22)).alloc (.cells #[.slice q lb dap] 22)).alloc (.cells #[.int .u8 s] 5)) 4 (.bool false)
    simpa using this
  have HV := hideP hV
  clear hV
  rcases h with h | ⟨h1, h⟩
  all_goals
    go_enter Try.func6, Try.ntmps6
    go_wp2_with fail
    rw [← HV.out]
    refine (AW.out _).mono ?_
    rintro e w2 ⟨rfl, h2⟩
    have cr := (boxed_bl bR h2).cell
    have fr := (boxed_bl bR h2).frozen
    go_wp2
    simp [bodyPost, results, Try.results6, go_sem, cr]
    exact Bl.set (hBV.trans h2) (by simp; omega) _
theorem walk_VecPairs (va : Value) (xs : List Int) (vb : Value) (ys : List Int) (s : Int) (w : World) (ha : Rq 1 cI w va xs) (hb : Rq 1 cI w vb ys) (hs : 0 ≤ s ∧ s ≤ 255) :
    Calls Try.prog 6 #[va, vb, .int .u8 s] w fun e w' => e = .returned (.bool true) ∧ Bl w w' := by
  by_cases hl : xs.length ≤ 200
  · by_cases hm : ys.length ≤ 200
    · exact pairs_main va xs vb ys s w ha hb hs hl hm
    · obtain ⟨p, cap, rfl, _, _⟩ := ha.cut
      obtain ⟨q, dap, rfl, _, _⟩ := hb.cut
      exact pairs_out p q _ _ cap dap s w (.inr ⟨by omega, by omega⟩)
  · obtain ⟨p, cap, rfl, _, _⟩ := ha.cut
    obtain ⟨q, dap, rfl, _, _⟩ := hb.cut
    exact pairs_out p q _ _ cap dap s w (.inl (by omega))
end Go.Proofs.Ytfbioinmgchdcaa

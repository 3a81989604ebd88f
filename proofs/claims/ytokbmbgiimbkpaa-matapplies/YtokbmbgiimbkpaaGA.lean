/- MatApplies: a matrix applied to a row is the product with it as a column; gone through, its rows are told in order, as far as it is asked (of 256 numbers from -100 up to 100). Conditions: none (every input). -/
import Derived.Test.YtokbmbgiimbkpaaMaGF
import Derived.Laws.EntriesVeiled
import Derived.Test.YtokbmbgiimbkpaaWlr
import Derived.RangeFuncCalls
import Derived.OrdersIn
import Derived.OwnWalkIn
import Derived.Test.YtokbmbgiimbkpaaMaI
import Derived.Test.YtokbmbgiimbkpaaVeI
import Derived.ProofKit
import Derived.OpenShut
import Derived.Carry
/- mat's Apply, of fractions (layer 6). -/
namespace Go.Proofs.Ytokbmbgiimbkpaa
open Go.RowKit Go.Shelf
set_option linter.unusedSimpArgs false
set_option linter.unusedVariables false
attribute [local go_sem] Oper.semAt_some

theorem one_rows {α : Type} (h : Nat → α) (pre : List RowX) : rowsL 1 (fun i _ => h i) pre = pre.map (fun x => h x.1) := by
  unfold rowsL
  induction pre with
  | nil => rfl
  | cons x pre ih => rw [List.flatMap_cons, ih]; rfl
set_option maxRecDepth 100000 in
set_option maxHeartbeats 4000000 in
theorem mApplyF (R M : Nat) (p : Option Addr) (n cap : Nat) (f : Nat → Nat → Fr) (q : Option Addr) (cap2 : Nat) (xs : List Fr) (w : World) (hx : Mx 3 cellsF w R M p n cap f) (hy : Rq 3 cellsF w (.slice q M cap2) xs) (hl : xs.length = M) :
    Calls Try.prog 27 #[mV R M p n cap, .slice q M cap2] w fun e w' => ∃ p' cap', e = .returned (.tuple #[.slice p' R cap', .bool true]) ∧ Rw 3 cellsF w' (.slice p' R cap') ((List.range R).map fun i => dotF (rowM M f i) xs) ∧ Bl w w' := by
  obtain ⟨i0, hi, hz0, hz1, hz2⟩ := info_parts Try.info_F
  refine (callsIn_wide (n := 8)).1 ?_
  have hfx := hx.fit
  have hdR := hx.1
  have hR16 := hdR.r2
  have hM16 := hdR.c2
  have HXm := hideP hx
  have HYm := hideP hy
  have HL := hideP hl
  clear hx hy hl
  obtain ⟨W, hW⟩ : ∃ W, W = (w.alloc (.cells #[.int .i64 R, .int .i64 M, .slice p n cap] 27)).alloc (.cells #[.slice q M cap2] 25) := ⟨_, rfl⟩
  have b0 : Bl w W := by rw [hW]; exact ((Bl.refl _).alloc _).alloc _
  have mx0 : MBox W w.heap.size R M p n cap := by rw [hW]; exact (MBox.new w _ _ _ _ _ _).later ((Bl.refl _).alloc _)
  have my0 : Boxed W (w.heap.size + 1) 25 (.slice q M cap2) := by rw [hW]; have := Boxed.new (w.alloc (.cells #[.int .i64 R, .int .i64 M, .slice p n cap] 27)) 25 (.slice q M cap2); rw [World.size_alloc] at this; exact this
  have hs0 : W.heap.size = w.heap.size + 1 + 1 := by rw [hW]; simp
  have HW := hideP hW
  clear hW
  refine callsIn_of_wp_marks Try.func27 rfl trivial ?_ rfl
  simp only [Try.ntmps27, List.size_toArray, List.length_cons, List.length_nil, Nat.reduceAdd, Nat.reduceSub, Array.replicate_succ, Array.replicate_zero, List.push_toArray, List.append_toArray, List.nil_append, List.cons_append]
  gi_wp2_with fail
  rw [← HW.out]
  refine ⟨trivial, ?_⟩
  refine (callsIn_wide.2 (mRightF _ _ _ _ _ _)).mono ?_
  rintro e w5 ⟨rfl, h5⟩
  rw [hfx]
  have mx5 := mx0.later h5
  have my5 := boxed_bl my0 h5
  have bw5 : Bl w w5 := b0.trans h5
  obtain ⟨c0, c1, c2, f0, f1, f2, lt⟩ := id mx5
  have d0 := my5.cell
  gi_wp2_with (gi_at_make; refine wpListIn_make_own _ rfl _ _ 25 rfl w5.heap.size 31 i0 (.agg #[.int .i64 0, .int .i64 0, .bool false]) 3 Try.underlying25 hi hz0 hz1 .i64 .i64 _ R rfl rfl (by simp) (by rw [hz2]; omega) (by unfold maxLen; omega) (by simp) ?_; intro w6 hown0 hgrow0; have mx6 := mbox_block mx5 (hgrow0.block _ mx5.lt nofun) hgrow0.size; clear c0 c1 c2 f0 f1 f2 d0 lt; obtain ⟨c0, c1, c2, f0, f1, f2, lt⟩ := mx6)
  have h56 : Bl w5 w6 := ⟨hgrow0.os, hgrow0.tape, hgrow0.output, hgrow0.size, fun k hk => hgrow0.block k hk nofun⟩
  have hs6 : w5.heap.size ≤ w6.heap.size := hgrow0.size
  obtain ⟨w6b, hw6b⟩ : ∃ w6b, w6b = w6.alloc (.cells #[.slice (some ⟨w5.heap.size, 0, none⟩) 0 R] 25) := ⟨_, rfl⟩
  have h6b : Bl w6 w6b := by rw [hw6b]; exact (Bl.refl _).alloc _
  have hs6b : w6b.heap.size = w6.heap.size + 1 := by rw [hw6b]; simp
  have bl6 : Boxed w6b w6.heap.size 25 (.slice (some ⟨w5.heap.size, 0, none⟩) 0 R) := by rw [hw6b]; exact Boxed.new w6 _ _
  have hown6 : w6b.ownsRow w5.heap.size 31 3 (.slice (some ⟨w5.heap.size, 0, none⟩) 0 R) 0 [] := own_blF hown0 h6b
  have hlt5 : w5.heap.size < w6b.heap.size := by have := (hown6.lt w5.heap.size rfl).2; exact this
  have HW6 := hideP hw6b
  clear hw6b hown0 hgrow0 c0 c1 c2 f0 f1 f2 lt
  rw [← HW6.out]
  refine ⟨trivial, ?_⟩
  refine (callsIn_wide.2 (mAllF _ _ _ _ _ f _ (HXm.out.later ((bw5.trans h56).trans h6b)))).mono ?_
  rintro e w7 ⟨B2, p2, cap5, rfl, hK7, h7⟩
  have HK7 := hideP hK7
  clear hK7
  have hs7 : w6.heap.size + 1 ≤ w7.heap.size := by have := h7.size; omega
  have b57 : Below w5.heap.size w5 w7 := (h56.trans h6b).trans h7
  have bl7 := boxed_bl bl6 h7
  have own7 := own_blF hown6 h7
  clear bl6 hown6
  gi_wp2_with fail
  refine rangeV rfl (by omega) (gf := 50) (lb := #[.pointer (some ⟨B2, 0, none⟩)]) rfl trivial (enters_of Try.func50 (by kernel_rfl) rfl)
    (seqMF 7 B2 _ w7.heap.size R M p2 n cap5 f w7 (Nat.le_refl _) HK7.out) (fun x A B h => h.1) (fun h k => h.trans k) (span_b (Nat.le_refl _)) (fun _ => rfl)
    (fun (pre : List RowX) U => (∃ v, Boxed U w6.heap.size 25 v ∧ U.ownsRow w5.heap.size 31 3 v (pre.map fun x : RowX => dotF (rowM M f x.1) xs).length ((pre.map fun x : RowX => dotF (rowM M f x.1) xs).flatMap cellsF) ∧ (∀ b, v.ownBlock = some b → b < w6b.heap.size ∨ w7.heap.size ≤ b)) ∧ (Below w5.heap.size w5 U ∧ w7.heap.size ≤ U.heap.size))
    (fun _ _ _ => False)
    (OwnFrom.and (Own.from (holdsRow_own w5.heap.size w6.heap.size 25 31 3 (fun pre : List RowX => (pre.map fun x : RowX => dotF (rowM M f x.1) xs).length) (fun pre : List RowX => (pre.map fun x : RowX => dotF (rowM M f x.1) xs).flatMap cellsF) (fun _ v => ∀ b, v.ownBlock = some b → b < w6b.heap.size ∨ w7.heap.size ≤ b)) _) (OwnFrom.and (ownFrom_below (Nat.le_refl _) b57.size) (own_size _ _)))
    (fun _ _ _ _ _ hs _ _ => hs)
    ⟨⟨_, bl7, own7, fun b hb => by cases hb; exact .inl hlt5⟩, b57, Nat.le_refl _⟩
    (fun a x a' U => Rw 3 cellsF U (rowV M x) (rowM M f x.1) ∧ a' = { tmps := (((a.tmps.setIfInBounds 24 (.int .i64 x.1)).setIfInBounds 25 (rowV M x)).setIfInBounds 8 (rowV M x)), defers := [] })
    (fun x a' _ X Y row hs hg hr => ⟨rw_own hs.1 hg (fun r e => (hr r e).2), hs.2⟩)
    ?assign ?body ?done ?stop
  case assign =>
    rintro l pre x W0 U K' _ ⟨hbU, hxR, hrow, hfr, hcc⟩ hI hK'
    have HK2 := hideP hK'
    have HI := hideP hI
    clear hK' hI
    gi_wp2
    exact HK2.out _ _ (KeepsFrom.refl _ _) (Span.refl _ _ _) HI.out ⟨hrow, rfl⟩
  case body =>
    rintro l pre x a' U hl' ⟨r, hr'⟩ ⟨⟨v, hv, hrow, hgv⟩, hbU, hsU⟩ ⟨hrx, rfl⟩ hlt
    simp only [List.setIfInBounds_toArray, List.set_cons_zero, List.set_cons_succ]
    gi_wp2_with fail
    have hbv := boxed_bl (show Boxed w5 _ _ _ from my5) hbU
    have hC := fun u (hu : Bl U u) => vDotF (rowV M x) (.slice q M cap2) (rowM M f x.1) xs u (hrx.later hu).q (HYm.out.later ((bw5.trans hbU).trans hu)) (by rw [rowM_len]; omega) (by rw [HL.out]; omega)
    have hlen2 : (pre.map fun x : RowX => dotF (rowM M f x.1) xs).length ≤ 100000 := by rw [List.length_map]; omega
    refine dotAppendF (ops := _) rfl (by kernel_rfl) 26 6 41 (by simp) (by omega) ⟨rfl, rfl, rfl⟩ ⟨rfl, rfl⟩ ⟨rfl, rfl⟩ ⟨rfl, rfl, rfl⟩ ⟨rfl, rfl, rfl⟩ ⟨rfl, rfl, rfl⟩ ⟨rfl, rfl, rfl⟩ ⟨by simp, by simp⟩ (by simp) ⟨by simp, by simp⟩ (by simp)
      (rowV M x) (.slice q M cap2) (fun act u K' hfr hu hk => move_wp (.tmp 8) rfl (by rw [hfr 8 (by omega)]; exact hk))
      (fun act u K' hfr hu hk => load_wp 25 (.tmp 3) rfl (by rw [hfr 3 (by omega)]; exact Try.load1F (w.heap.size + 1) _ u (boxed_bl hbv hu).cell) hk)
      trivial (fun _ => by omega) (enters_of Try.func41 (by kernel_rfl) rfl) (dotF (rowM M f x.1) xs)
      (fun u hu => CallsIn.inRound l (callsIn_wide.2 (hC u hu)))
      w6.heap.size rfl v hv w5.heap.size (pre.map fun x : RowX => dotF (rowM M f x.1) xs) hrow hlen2 (by have := b57.size; omega) ?_
    intro act u0 w8 g' cap' k1 k2 k3 k4
    have hvu := boxed_bl hv k1
    have hru := own_blF hrow k1
    have hsu := k1.size
    have hu5 : w5.heap.size ≤ u0.heap.size := by have := b57.size; omega
    obtain ⟨hv5, hv6, hr6, hk6, hb6⟩ := boxed_appended hvu (by decide) hru hu5 (by omega) k3 k2
    have hg8 := k2.size
    refine ⟨(k1.keeps _).trans (hk6.from _), span_appended k1 (by omega) hgv k2 (by omega), ⟨_, hv6, ?_, ?_⟩, ?_, ?_⟩
    · rw [List.map_append]
      simpa [List.flatMap_append] using hr6
    · intro b hb
      have hb' : g' = b := by cases hb; rfl
      subst hb'
      rcases k4 with h | h
      · exact hgv _ h.symm
      · exact .inr (by omega)
    · exact hbU.trans ((k1.mono (by have := b57.size; omega)).trans hb6)
    · simp; omega
  case done =>
    rintro Dm zs U hD hS ⟨⟨v, hv, hrow, _⟩, hb5, hs7'⟩ hKD
    have e : (zs.map fun x : RowX => dotF (rowM M f x.1) xs) = (List.range R).map fun i => dotF (rowM M f i) xs := by rw [← hS, List.map_map]; rfl
    rw [e] at hrow
    have RW := Rw.of_own cellsF_len (ownsRow_putObj hrow (.deferred none) hKD rfl)
    obtain ⟨p', cap', hv', _, _⟩ := RW.cut
    rw [List.length_map, List.length_range] at hv'
    subst hv'
    have hcl := hv.cell
    have hbw : Bl w U := bw5.trans hb5
    have HRW := hideP RW
    have HKD := hideP hKD
    clear hrow RW hKD hv
    gi_wp2
    refine ⟨by simp, .inl ⟨_, _, rfl, run_takeDeferred HKD.out, ?_⟩⟩
    exact ⟨_, results_tmp2 rfl _ _ _, p', cap', rfl, HRW.out, Below.trans hbw (belowK_b (w := w) (Nat.le_refl _) U Dm _ _ (by have := bw5.size; have := b57.size; omega) HKD.out rfl rfl)⟩
  case stop =>
    rintro D' c pre U _ _ h _
    exact h.elim
theorem mApplyF_no (R M : Nat) (p : Option Addr) (n cap : Nat) (q : Option Addr) (m cap2 : Nat) (w : World) (hfx : fitB R M n = true) (hne : m ≠ M) :
    Calls Try.prog 27 #[mV R M p n cap, .slice q m cap2] w fun e w' => e = .returned (.tuple #[.slice none 0 0, .bool false]) ∧ Bl w w' := by
  obtain ⟨W, hW⟩ : ∃ W, W = (w.alloc (.cells #[.int .i64 R, .int .i64 M, .slice p n cap] 27)).alloc (.cells #[.slice q m cap2] 25) := ⟨_, rfl⟩
  have b0 : Bl w W := by rw [hW]; exact ((Bl.refl _).alloc _).alloc _
  have mx0 : MBox W w.heap.size R M p n cap := by rw [hW]; exact (MBox.new w _ _ _ _ _ _).later ((Bl.refl _).alloc _)
  have my0 : Boxed W (w.heap.size + 1) 25 (.slice q m cap2) := by rw [hW]; have := Boxed.new (w.alloc (.cells #[.int .i64 R, .int .i64 M, .slice p n cap] 27)) 25 (.slice q m cap2); rw [World.size_alloc] at this; exact this
  have hne' : ((m : Int) == (M : Int)) = false := by simp; omega
  have HW := hideP hW
  clear hW hne
  go_enter Try.func27, Try.ntmps27
  go_wp2_with fail
  rw [← HW.out]
  refine (mRightF _ _ _ _ _ _).mono ?_
  rintro e w1 ⟨rfl, h1⟩
  rw [hfx]
  obtain ⟨c0, c1, c2, f0, f1, f2, lt⟩ := mx0.later h1
  have d0 := (boxed_bl my0 h1).cell
  go_wp2
  go_ret2
  exact ⟨rfl, b0.trans h1⟩
end Go.Proofs.Ytokbmbgiimbkpaa

/- A region that draws its order, within a round of a range over a function: what is shown of it outside of rounds holds there, too; the class of worlds behind a given one. -/
namespace Go.Proofs.Ytokbmbgiimbkpaa
open Go.RowKit
set_option linter.unusedSimpArgs false
set_option linter.unusedVariables false

/-- No operation puts a call off. -/
def noDeferB (ops : Array Oper) : Bool := ops.all fun o => match o.op with
  | .defer _ => false
  | _ => true
theorem noDefer_of {ops : Array Oper} (h : noDeferB ops = true) {i : Nat} {o : Oper} (ho : ops[i]? = some o) : ∀ c, o.op ≠ .defer c := by
  intro c e
  obtain ⟨hi, rfl⟩ := Array.getElem?_eq_some_iff.1 ho
  have := Array.all_eq_true.1 h i hi
  rw [e] at this
  cases this
theorem operIn_of {l n : Nat} {P : Program} {o : Oper} {a : Act} {w : World} {K : Act → World → Prop} {Q : Exit → Act → World → Prop} (hd : ∀ c, o.op ≠ .defer c) (h : o.wp P a w K Q) : o.wpIn (Fence.wide.inRound l) n P a w K Q := by
  unfold Oper.wpIn
  refine ⟨fun _ _ => trivial, ?_⟩
  rw [Oper.semAt_plain _ _ _ hd]
  unfold Oper.wp at h
  generalize (execOp a.eval o).run P w = r at h ⊢
  cases r with
  | ok x w' =>
    cases x with
    | enter f args => exact ⟨(fun h => by cases h), (callsIn_wide (n := n - 1)).2 h⟩
    | row row args => exact ⟨(fun h => by cases h), fun c cs _ => let ⟨v, w'', hr, hs⟩ := h c cs; ⟨v, w'', hr, stepsIn_wide.2 hs⟩⟩
    | round l f tmps assign body => exact h.elim
    | value v => exact h
    | skip => exact h
    | defer d => exact h
    | _ => exact h.elim
  | halt x w' =>
    cases x <;> exact h
theorem anyIn_of {l0 n : Nat} {P : Program} {md : Region.Mode} {ops : Array Oper} {Q : Exit → Act → World → Prop} (hnd : noDeferB ops = true) (hl : ¬ LetsOut Q) :
    ∀ (fuel : Nat) (l : Array Bool) (a : Act) (w : World), wpAny P md ops Q fuel l a w → wpAnyIn (Fence.wide.inRound l0) n P md ops Q fuel l a w
  | 0, _, _, _, h => h
  | fuel + 1, l, a, w, h => by
    refine ⟨h.1, fun i hi => ?_⟩
    have hw := h.2 i hi
    unfold wpOp at hw
    unfold wpOpIn
    cases ho : ops[i]? with
    | none =>
      rw [ho] at hw
      exact anyIn_of hnd hl fuel _ a w hw
    | some o =>
      rw [ho] at hw
      dsimp only at hw ⊢
      by_cases hc : Region.wanted o (yielded ops a.tmps) = true
      · rw [if_pos hc] at hw ⊢
        rcases hw with hw | ⟨_, hw⟩
        · exact operIn_of (noDefer_of hnd ho) (Oper.wp_mono (fun a' w' h' => anyIn_of hnd hl fuel _ a' w' h') hw)
        · exact (hl hw).elim
      · rw [if_neg hc] at hw ⊢
        exact ⟨fun _ _ => trivial, anyIn_of hnd hl fuel _ _ _ hw⟩
/-- The post, of the plain way alone. -/
def OnlyN (Q : Exit → Act → World → Prop) (e : Exit) (a : Act) (w : World) : Prop := e = .normal ∧ Q .normal a w
theorem onlyN_out (Q : Exit → Act → World → Prop) : ¬ LetsOut (OnlyN Q) := fun ⟨_, _, h, _⟩ => by cases h
theorem regionIn_of {l0 n : Nat} {P : Program} {id : Nat} {ops : Array Oper} {Q : Exit → Act → World → Prop} {a : Act} {w : World} (hm : P.follows .mixedOrders = true) (hnd : noDeferB ops = true)
    (h : wpAny P .any ops (OnlyN Q) ops.size (Array.replicate ops.size false) a { w with drawn := w.drawn + 1 }) : (Code.region id ops true).wpIn (Fence.wide.inRound l0) n P Q a w :=
  Code.wpIn_mono (fun e a' w' q => by obtain ⟨rfl, q⟩ := q; exact q) (wpIn_region_any hm (anyIn_of hnd (onlyN_out Q) _ _ _ _ h))
theorem wl_regionIn {l0 n : Nat} {P : Program} {id : Nat} {Q : Exit → Act → World → Prop} {a : Act} {w : World} {l : List Oper} (V : World) (hV : Bl V w) (hm : P.follows .mixedOrders = true) (hB : Region.lexB .any l.toArray = true) (hnd : noDeferB l.toArray = true)
    (h : wpQuiet P l.toArray (fun w' => ∃ z : Wl V, w' = z.w) (fun a' => ∀ w', (∃ z : Wl V, w' = z.w) → Q .normal a' w') l a) : (Code.region id l.toArray true).wpIn (Fence.wide.inRound l0) n P Q a w := by
  simp only [Region.lexB, Bool.and_eq_true] at hB
  refine regionIn_of hm hnd (wpAny_of_quiet (C := fun w' => ∃ z : Wl V, w' = z.w) (Q := fun a' => ∀ w', (∃ z : Wl V, w' = z.w) → Q .normal a' w') (fun _ w' hw' h => ⟨rfl, h w' hw'⟩) _ _ _ _ ⟨⟨w.drew, hV.drew⟩, rfl⟩ ?_)
  have := wpAnyQ_lex (C := fun w' => ∃ z : Wl V, w' = z.w) (md := .any) hB.1 l.toArray.toList 0 (Array.replicate l.toArray.size false) a (by simp) (by simpa using hB.2) (by simpa using h)
  simpa using this
end Go.Proofs.Ytokbmbgiimbkpaa

/- The walk of MatApplies. Written by genMl.py's kin. -/
namespace Go.Proofs.Ytokbmbgiimbkpaa
open Go.RowKit Go.Shelf
set_option linter.unusedSimpArgs false
set_option linter.unusedVariables false
attribute [local go_sem] Oper.semAt_some

theorem few6_yes (v : Value) (ns : List Int) (w : World) (h : Rq 1 cI w v ns) (hl : ns.length ≤ 256) (hs : Sml 100 ns) :
    Calls Try.prog 10 #[v] w fun e w' => e = .returned (.bool true) ∧ w' = w := by
  rcases h with ⟨p, cap, rfl, rfl, hpn⟩ | ⟨b, o, cap, rfl, hc, hb, hx⟩
  · go_enter Try.func10, Try.ntmps10
    go_wp2_with fail
    go_loopw [3] (fun i wr => i = .int .i64 0 ∧ wr = w) (fun _ _ => 0)
    case atStart => exact ⟨rfl, rfl⟩
    case round =>
      obtain ⟨rfl, rfl⟩ := hrel
      go_wp2
      go_ret
      exact ⟨by simp, rfl⟩
  · have HX := hideP hx
    have HS := hideP hs
    clear hx hs
    go_enter Try.func10, Try.ntmps10
    go_wp2_with fail
    go_loopw [3] (fun i wr => ∃ k : Nat, i = .int .i64 k ∧ k ≤ ns.length ∧ wr = w) (fun i _ => ns.length - (intOf i).toNat)
    case atStart => exact ⟨0, rfl, Nat.zero_le _, rfl⟩
    case round =>
      obtain ⟨k, rfl, hk, rfl⟩ := hrel
      by_cases hlt : k < ns.length
      · obtain ⟨x, hx⟩ : ∃ x, ns[k]? = some x := ⟨_, List.getElem?_eq_getElem hlt⟩
        have cx := cellI HX.out hx (wr := wr)
        have hx2 := HS.out x (List.mem_of_getElem? hx)
        have h1 : ¬ x < -100 := by omega
        have h2 : ¬ 100 < x := by omega
        clear hx hx2
        go_wp2
        go_roundw
        case rel => exact ⟨k + 1, by simp, hlt, trivial⟩
        case measure => simp [intOf]; omega
      · obtain rfl : k = ns.length := by omega
        go_wp2
        go_ret
        exact ⟨by simp; omega, rfl⟩
theorem rwA_all {p : Option Addr} {n cap : Nat} {xs : List Fr} {w : World} (h : Rw 3 cellsF w (.slice p n cap) xs) (hp : 0 < xs.length) : ∃ b o, p = some ⟨b, o, none⟩ ∧ ∀ k x, xs[k]? = some x → ∀ u, Bl w u → u.cell? ⟨b, o + k * 3, none⟩ = some (.int .i64 x.n) ∧ u.cell? ⟨b, o + k * 3 + 1, none⟩ = some (.int .i64 x.d) ∧ u.cell? ⟨b, o + k * 3 + 2, none⟩ = some (.bool x.bad) := by
  rcases h with ⟨_, h0⟩ | ⟨b, o, cc, e, _, hlt, HX⟩
  · rw [h0] at hp; simp at hp
  · cases e
    exact ⟨b, o, rfl, fun k x hk u hu => ⟨(bl_cell hu _ _ hlt).trans (HX k _ hk 0 _ rfl), (bl_cell hu _ _ hlt).trans (HX k _ hk 1 _ rfl), (bl_cell hu _ _ hlt).trans (HX k _ hk 2 _ rfl)⟩⟩
/-- A column, number by number. -/
theorem mk_one {α : Type} (C : Nat) (g : Nat → Nat → α) : mk C 1 g = colM C g 0 := by
  unfold mk colM
  induction (List.range C) with
  | nil => rfl
  | cons x l ih => rw [List.flatMap_cons, ih]; rfl
theorem range_own {R : Nat} {l : List Nat} (h : l <+: List.range R) : l = List.range l.length ∧ l.length ≤ R := by
  have h2 := h.length_le
  rw [List.length_range] at h2
  have h1 := List.prefix_iff_eq_take.1 h
  rw [List.take_range, Nat.min_eq_left h2] at h1
  exact ⟨h1, h2⟩
theorem range_snoc {R : Nat} {l : List Nat} (h : l <+: List.range R) (hl : l.length < R) (a : Nat) : l ++ [a] <+: List.range R ↔ a = l.length := by
  obtain ⟨h1, h2⟩ := range_own h
  constructor
  · intro h3
    have h4 := (range_own h3).1
    rw [List.length_append, List.length_singleton, List.range_succ] at h4
    have := List.append_inj_right h4 (by rw [List.length_range])
    simpa using this
  · rintro rfl
    rw [h1, List.length_range]
    have := range_pre (k := l.length + 1) (R := R) hl
    rw [List.range_succ] at this
    exact this
theorem min2_run (a b : Int) (w : World) : (Builtin.min_ #[3, 3] 3 #[.int .i64 a, .int .i64 b]).run Try.prog w = .ok (.int .i64 (if b < a then b else a)) w := by
  simp [Builtin.min_, Builtin.min2, List.foldlM, go_sem]
/-- Between two rounds. -/
def AppI (R : Nat) (s : Int) (w6 : World) (h7 : Nat) (pre : List RowX) (U : World) : Prop :=
  (pre.map (·.1) <+: List.range R ∧ (pre.length : Int) ≤ s) ∧ Boxed U w6.heap.size 3 (.int .i64 pre.length) ∧ Below w6.heap.size w6 U ∧ h7 ≤ U.heap.size
/-- Where a round has left. -/
def AppX (R : Nat) (s : Int) (w6 : World) (h7 : Nat) (c : Code) (pre : List RowX) (U : World) : Prop :=
  (c = .ret ∧ ¬ pre.map (·.1) <+: List.range R) ∨ (c = .exit 2 ∧ (pre.length : Int) = s + 1 ∧ Boxed U w6.heap.size 3 (.int .i64 pre.length) ∧ Below w6.heap.size w6 U)
theorem appBox_own {w6 X Y : World} {v : Value} {row : Option Nat} {B0 : Nat} (h : Boxed X w6.heap.size 3 v ∧ Below w6.heap.size w6 X) (h0 : w6.heap.size ≤ B0) (hg : X.grownBy Y row) (hr : ∀ r, row = some r → B0 ≤ r ∧ ∃ o : Obj, X.heap[r]? = some o ∧ o.isCells = false) : Boxed Y w6.heap.size 3 v ∧ Below w6.heap.size w6 Y :=
  ⟨boxed_own w6.heap.size 3 (fun (_ : Unit) => v) () X Y row h.1 hg (fun r e => (hr r e).2), ownFrom_below (β := Unit) (Nat.le_refl _) h0 () X Y row h.2 hg hr⟩

set_option maxRecDepth 100000 in
set_option maxHeartbeats 4000000 in
theorem applies_main (pa : Option Addr) (la ca : Nat) (xa : List Int) (pv : Option Addr) (cv : Nat) (xv : List Int) (R C : Nat) (s : Int) (w : World) (ha : Rq 1 cI w (.slice pa la ca) xa) (hv : Rq 1 cI w (.slice pv C cv) xv) (hf : fitB R C la = true) (hla : xa.length = la) (hlv : xv.length = C) (sa : Sml 100 xa) (sv : Sml 100 xv) (hs : 0 ≤ s ∧ s ≤ 255) :
    Calls Try.prog 6 #[.slice pa la ca, .slice pv C cv, .int .i64 R, .int .i64 C, .int .u8 s] w fun e w' => e = .returned (.bool true) ∧ Bl w w' := by
  have AW := hideP awake6_any
  have EG := Try.frGuard
  obtain ⟨R', C', hR', hC', hd, hn⟩ := fitB_nat hf
  obtain rfl : R = R' := by omega
  obtain rfl : C = C' := by omega
  clear hR' hC'
  have hd1 : Dim C 1 := ⟨hd.c1, hd.c2, by omega, by omega⟩
  have hf2 : fitB C ((1 : Nat) : Int) C = true := fitB_dim hd1 (by omega)
  have hn256 := hd.lt
  rw [← hn] at hn256
  have sm1 := hideP (ofL_sml (R := R) (M := C) (by omega) sa)
  have sm2 := hideP (ofL_sml (R := C) (M := 1) (by omega) sv)
  have W1 := hideP (fun u (hu : Bl w u) => whole6_call R C pa la ca xa u (ha.later hu) hf hla sa)
  have W2 := hideP (fun u (hu : Bl w u) => whole6_call C 1 pv C cv xv u (hv.later hu) hf2 hlv sv)
  have Y1 := hideP (fun u (hu : Bl w u) => few6_yes _ xa u (ha.later hu) (by omega) sa)
  have Y2 := hideP (fun u (hu : Bl w u) => few6_yes _ xv u (hv.later hu) (by have := hd.c2; omega) sv)
  have HN := hideP hn
  clear ha hv sa sv hla hlv hn
  generalize ofL C xa = fa at *
  generalize ofL 1 xv = fv at *
  have hC1 := hd.c1
  have hR1 := hd.r1
  have hC16 := hd.c2
  have hR16 := hd.r2
  obtain ⟨V, hV⟩ : ∃ V, V = ((w.alloc (.cells #[.int .i64 C] 3)).alloc (.cells #[.int .u8 s] 5)).alloc (.cells #[.bool false] 4) := ⟨_, rfl⟩
  have hBV : Bl w V := by rw [hV]; exact (((Bl.refl _).alloc _).alloc _).alloc _
  have bC : Boxed V w.heap.size 3 (.int .i64 C) := by rw [hV]; exact ((Boxed.new w 3 _).alloc _).alloc _
  have bS : Boxed V (w.heap.size + 1) 5 (.int .u8 s) := by
    rw [hV]
    have := (Boxed.new (w.alloc (.cells #[.int .i64 C] 3)) 5 (.int .u8 s)).alloc (.cells #[.bool false] 4)
    simpa using this
  have bR : Boxed V (w.heap.size + 1 + 1) 4 (.bool false) := by
    rw [hV]
    have := Boxed.new ((w.alloc (.cells #[.int .i64 C] 3)).alloc (.cells #[.int .u8 s] 5)) 4 (.bool false)
    simpa using this
  have hsz : V.heap.size = w.heap.size + 1 + 1 + 1 := by rw [hV]; simp
  have HV := hideP hV
  clear hV
  refine (callsIn_wide (n := 8)).1 ?_
  refine callsIn_of_wp_marks Try.func6 rfl trivial ?_ rfl
  refine wpIn_wide.2 ?_
  simp only [Try.ntmps6, List.size_toArray, List.length_cons, List.length_nil, Nat.reduceAdd, Nat.reduceSub, Array.replicate_succ, Array.replicate_zero, List.push_toArray, List.append_toArray, List.nil_append, List.cons_append]
  go_wp2_with fail
  rw [← HV.out]
  refine (Y1.out _ hBV).mono ?_
  rintro e w1 ⟨rfl, hw1⟩
  replace hw1 := hw1.symm
  subst hw1
  go_wp2_with fail
  refine (Y2.out _ hBV).mono ?_
  rintro e w1 ⟨rfl, hw1⟩
  replace hw1 := hw1.symm
  subst hw1
  have cC := bC.cell
  go_wp2_with fail
  refine (W1.out _ hBV).mono ?_
  rintro e w2 ⟨p1, c1, rfl, hx, h2⟩
  have HX := hideP hx
  clear hx cC W1 Y1 Y2
  have m1 := MBox.new w2 R C p1 la c1 27
  go_wp2_with fail
  refine (W2.out _ ((hBV.trans h2).alloc _)).mono ?_
  rintro e w3 ⟨p2, c2, rfl, hy, h3⟩
  have HY := hideP hy
  clear hy W2
  have m3 := MBox.new w3 C 1 p2 C c2 27
  have b23 : Bl w2 w3 := ((Bl.refl _).alloc _).trans h3
  obtain ⟨x0, x1, x2, _, _, _, lt⟩ := m1.later h3
  go_wp2_with fail
  refine (mApplyF R C p1 la c1 _ p2 c2 _ _ (HX.out.later (b23.alloc _)) (HY.out.later ((Bl.refl _).alloc _)).2.2 (by rw [mk_len]; omega)).mono ?_
  rintro e w4 ⟨p4, c4, rfl, hr, h4⟩
  clear x0 x1 x2
  have hr2 : (List.range R).map (fun i => dotF (rowM C (fun i k => itF (fa i k)) i) (mk C 1 (fun i k => itF (fv i k)))) = (List.range R).map (fun i => itF (mulI C fa fv i 0)) := List.map_congr_left fun i hi => by
    rw [mk_one]
    exact mulM_it sm1.out sm2.out hC16 (by omega) (by omega) (by omega) (by simpa using hi) (by omega)
  rw [hr2] at hr
  have HR := hideP hr
  clear hr hr2
  have b34 : Bl w3 w4 := ((Bl.refl _).alloc _).trans h4
  have bV4 : Bl V w4 := h2.trans (b23.trans b34)
  have cC := (boxed_bl bC bV4).cell
  have m1' := (m1.later h3).later b34
  have m3' := m3.later h4
  obtain ⟨x0, x1, x2, _, _, _, lt⟩ := m1'
  obtain ⟨y0, y1, y2, _, _, _, lt3⟩ := m3'
  go_wp2_with fail
  refine (mul6_any (A := 100) (B := 100) R C 1 p1 la c1 _ p2 C c2 _ R _ (HX.out.later (b23.trans b34)) (HY.out.later b34) (by omega) sm1.out sm2.out (by omega) (by omega) (by omega)).mono ?_
  rintro e w5 ⟨p5, c5, rfl, hz, h5⟩
  have HZ := hideP hz
  clear hz x0 x1 x2 y0 y1 y2 cC
  obtain ⟨w5b, hw5b⟩ : ∃ w5b, w5b = w5.alloc (.cells #[.int .i64 R, .int .i64 ((1 : Nat) : Int), .slice p5 R c5] 27) := ⟨_, rfl⟩
  have m5 : MBox w5b w5.heap.size R ((1 : Nat) : Int) p5 R c5 := by rw [hw5b]; exact MBox.new w5 _ _ _ _ _ _
  have b5b : Bl w5 w5b := by rw [hw5b]; exact (Bl.refl _).alloc _
  have HZb := hideP (HZ.out.later b5b)
  obtain ⟨bw, ow, rfl, CW⟩ := rwA_all HR.out (by simp; omega)
  have HCW := hideP (fun (u : World) (hu : Bl w5b u) j (hj : j < R) => CW j (itF (mulI C fa fv j 0)) (by simp [hj]) u ((h5.trans b5b).trans hu))
  clear CW HR HZ
  have bV5 : Bl V w5b := bV4.trans (h5.trans b5b)
  have HX5 := hideP (HX.out.later ((b23.trans b34).trans (h5.trans b5b)))
  have m1b : MBox w5b w2.heap.size R C p1 la c1 := ((m1.later h3).later b34).later (h5.trans b5b)
  clear m1 m3 HX HY
  go_wp2_with fail
  have HW5 := hideP hw5b
  clear hw5b
  simp only [Int.natCast_one] at HW5 m5
  rw [← HW5.out]
  go_loopw [90] (fun v wr => ∃ j : Nat, v = .int .i64 j ∧ j ≤ R ∧ Bl w5b wr) (fun v _ => R - (intOf v).toNat)
  case atStart => exact ⟨0, rfl, Nat.zero_le _, Bl.refl _⟩
  case round =>
    obtain ⟨j, rfl, hj, bl⟩ := hrel
    by_cases hlt : j < R
    · have z0 := fun z : Wl wr => (HCW.out z.w (bl.trans z.bl) j hlt).1
      have z1 := fun z : Wl wr => (HCW.out z.w (bl.trans z.bl) j hlt).2.1
      have z2 := fun z : Wl wr => (HCW.out z.w (bl.trans z.bl) j hlt).2.2
      have y0 := fun z : Wl wr => (m5.later (bl.trans z.bl)).c0
      have y1 := fun z : Wl wr => (m5.later (bl.trans z.bl)).c1
      have y2 := fun z : Wl wr => (m5.later (bl.trans z.bl)).c2
      have AT := hideP (fun z : Wl wr => mAtF R 1 p5 R c5 _ z.w (HZb.out.later (bl.trans z.bl)) j 0 hlt (by omega))
      simp only [Int.natCast_one, Int.natCast_zero] at AT
      have ne1 := neq_selfV (itF (mulI C fa fv j 0))
      have wne := wl_ne wr
      generalize itF (mulI C fa fv j 0) = rr at z0 z1 z2 AT ne1
      go_wp2_with fail
      refine wl_region wr (Bl.refl _) (by kernel_rfl) (by kernel_rfl) ?_
      repeat (go_big_quiet_step (first | (go_at_call 18; exact wl_call (AT.out _))))
      refine wpQuiet_nil ?_
      intro _ hw'
      obtain ⟨z, hw''⟩ := hw'
      subst hw''
      clear wne z0 z1 z2 y0 y1 y2 ne1 AT
      obtain ⟨v4, h8⟩ := z
      dsimp only
      go_wp2
      go_roundw
      case rel => exact ⟨j + 1, by simp, hlt, bl.trans h8⟩
      case measure => simp [intOf]; omega
    · obtain rfl : R = j := by omega
      obtain ⟨w6b, hw6b⟩ : ∃ w6b, w6b = wr.alloc (.cells #[.int .i64 0] 3) := ⟨_, rfl⟩
      have b6 : Bl wr w6b := by rw [hw6b]; exact (Bl.refl _).alloc _
      have bN : Boxed w6b wr.heap.size 3 (.int .i64 0) := by rw [hw6b]; exact Boxed.new wr _ _
      have hs6 : w6b.heap.size = wr.heap.size + 1 := by rw [hw6b]; simp
      have m6 := m1b.later (bl.trans b6)
      obtain ⟨x0, x1, x2, _, _, _, lt⟩ := id (m1b.later bl)
      have HW6 := hideP hw6b
      clear hw6b
      go_wp2_with fail
      rw [← HW6.out]
      refine (mAllF R C p1 la c1 _ _ (HX5.out.later (bl.trans b6))).mono ?_
      rintro e w7 ⟨B2, p7, c7, rfl, hK7, h7⟩
      have HK7 := hideP hK7
      clear hK7 x0 x1 x2
      have b67 : Bl wr w7 := b6.trans h7
      have hs7 : wr.heap.size + 1 ≤ w7.heap.size := by have := h7.size; omega
      have bN7 := boxed_bl bN h7
      have bV6 : Bl V wr := bV5.trans bl
      have bCw := boxed_bl bC bV6
      have bSw := boxed_bl bS bV6
      have bRw := boxed_bl bR bV6
      have hsw : w.heap.size + 1 + 1 + 1 ≤ wr.heap.size := by have := bV6.size; omega
      have m1w := m1b.later bl
      have HX6 := hideP (HX5.out.later bl)
      clear m6 bC bS bR bN m5 m1b HX5
      go_wp2_with fail
      refine (wpIn_wide (n := 8)).1 ?_
      refine rangeV (n := 8) rfl (by omega) (gf := 50) (lb := #[.pointer (some ⟨B2, 0, none⟩)]) rfl trivial (enters_of Try.func50 (by kernel_rfl) rfl)
        (seqMF 7 B2 _ w7.heap.size R C p7 la c7 _ w7 (Nat.le_refl _) HK7.out) (fun x A B h => h.1) (fun h k => h.trans k) (span_b (Nat.le_refl _)) (fun _ => rfl)
        (AppI R s wr w7.heap.size) (AppX R s wr w7.heap.size)
        (fun _ X Y row hs hg hr => by
          obtain ⟨h1, h2, h3, h4⟩ := hs
          have q := appBox_own ⟨h2, h3⟩ (by omega) hg hr
          exact ⟨h1, q.1, q.2, Nat.le_trans h4 hg.size⟩)
        (fun c _ X Y row hs hg hr => by
          rcases hs with h | ⟨h1, h2, h3, h4⟩
          · exact .inl h
          · have q := appBox_own ⟨h3, h4⟩ (by omega) hg hr
            exact .inr ⟨h1, h2, q.1, q.2⟩)
        (show AppI _ _ _ _ _ _ from ⟨⟨List.nil_prefix, by simp; omega⟩, by simpa using bN7, b67, Nat.le_refl _⟩)
        (fun a x a' U => (Rw 3 cellsF U (rowV C x) (rowM C (fun i k => itF (fa i k)) x.1) ∧ x.1 < R) ∧ a' = { tmps := ((((a.tmps.setIfInBounds 104 (.int .i64 x.1)).setIfInBounds 105 (rowV C x)).setIfInBounds 21 (.int .i64 x.1)).setIfInBounds 22 (rowV C x)), defers := [] })
        (fun x a' _ X Y row hs hg hr => ⟨⟨rw_own hs.1.1 hg (fun r e => (hr r e).2), hs.1.2⟩, hs.2⟩)
        ?assign ?body ?done ?stop
      case assign =>
        rintro l pre x W0 U K' _ ⟨hbU, hxR, hrow, hfr, hcc⟩ hI hK'
        have HK2 := hideP hK'
        have HI := hideP hI
        have HRO := hideP hrow
        clear hK' hI hrow
        gi_wp2
        refine HK2.out _ _ (KeepsFrom.refl _ _) (Span.refl _ _ _) HI.out ⟨⟨HRO.out, hxR⟩, ?_⟩
        simp only [List.setIfInBounds_toArray, List.set_cons_zero, List.set_cons_succ]
      case body =>
        rintro l pre x a' U hl' ⟨r, hr'⟩ ⟨⟨hpre, hps⟩, hbx, hbU, hsU⟩ ⟨⟨hrx, hxR⟩, rfl⟩ hlt
        simp only [List.setIfInBounds_toArray, List.set_cons_zero, List.set_cons_succ]
        have HSN := hideP (range_snoc hpre (by simpa using hlt) x.1)
        have hlm : (pre ++ [x]).map (·.1) = pre.map (·.1) ++ [x.1] := by simp
        have hln : (pre.map (fun x : RowX => x.1)).length = pre.length := by simp
        rw [hln] at HSN
        obtain ⟨x1, xp, xc⟩ := x
        dsimp only [rowV] at *
        obtain ⟨b, o, rfl, CR⟩ := rwA_all hrx (by rw [rowM_len]; omega)
        have z0 := fun z : Wl U => (boxed_bl hbx z.bl).cell
        have z1 := fun z : Wl U => (boxed_bl bCw (show Bl wr z.w from (show Bl wr U from hbU).trans z.bl)).cell
        have y0 := fun z : Wl U => (m1w.later (show Bl wr z.w from (show Bl wr U from hbU).trans z.bl)).c0
        have y1 := fun z : Wl U => (m1w.later (show Bl wr z.w from (show Bl wr U from hbU).trans z.bl)).c1
        have y2 := fun z : Wl U => (m1w.later (show Bl wr z.w from (show Bl wr U from hbU).trans z.bl)).c2
        have CR0 := fun z : Wl U => CR 0 _ (rowM_get _ x1 hC1) z.w z.bl
        have q0 := fun z : Wl U => (CR0 z).1
        have q1 := fun z : Wl U => (CR0 z).2.1
        have q2 := fun z : Wl U => (CR0 z).2.2
        simp only [Nat.zero_mul, Nat.add_zero] at q0 q1 q2
        have AT := hideP (fun z : Wl U => mAtF R C p1 la c1 _ z.w (HX6.out.later (show Bl wr z.w from (show Bl wr U from hbU).trans z.bl)) x1 0 hxR (by omega))
        simp only [Int.natCast_zero] at AT
        have ne1 := neq_selfV (itF (fa x1 0))
        have wne := wl_ne U
        clear CR CR0
        generalize itF (fa x1 0) = rr at q0 q1 q2 AT ne1
        by_cases hx1 : x1 = pre.length
        · have HPR := hideP (HSN.out.2 hx1)
          have hx2 : ((x1 : Int) != (pre.length : Int)) = false := by simp [hx1]
          have HX1 := hideP hx1
          have h16 : pre.length ≤ 16 := by omega
          obtain ⟨k, hk⟩ : ∃ k, k = pre.length := ⟨_, rfl⟩
          rw [← hk] at hx2 z0 hbx hps h16
          have HKK := hideP hk
          clear hk hx1
          gi_wp2_with fail
          refine wl_regionIn U (Bl.refl _) (by kernel_rfl) (by kernel_rfl) (by kernel_rfl) ?_
          repeat (go_big_quiet_step (first | (go_at_call 18; exact wl_call (AT.out _))))
          refine wpQuiet_nil ?_
          intro _ hw'
          obtain ⟨z, hw''⟩ := hw'
          subst hw''
          clear wne z0 z1 y0 y1 y2 q0 q1 q2 ne1 AT
          obtain ⟨U2, h2⟩ := z
          dsimp only
          have b2 := boxed_bl hbx h2
          have ck := b2.cell
          have fk := b2.frozen
          have bs2 := boxed_bl bSw (show Bl wr U2 from (show Bl wr U from hbU).trans h2)
          have cs := bs2.cell
          by_cases hsk : s < (k : Int) + 1
          · gi_wp2
            refine ⟨(h2.keeps _).trans ((KeepsOthers.setCell _ _ _).from _), .inr ⟨rfl, ?_, ?_, ?_⟩⟩
            · have := HKK.out; simp; omega
            · have := b2.set (.int .i64 ((k : Int) + 1)); have := HKK.out; subst this; simpa using b2.set (.int .i64 ((pre.length : Int) + 1))
            · exact (hbU.trans (h2.mono (by omega))).setCell (p := ⟨wr.heap.size, 0, none⟩) (Nat.le_refl _) _
          · gi_wp2
            refine ⟨(h2.keeps _).trans ((KeepsOthers.setCell _ _ _).from _), ?_, ⟨by rw [hlm]; exact HPR.out, by have := HKK.out; simp; omega⟩, ?_, ?_, ?_⟩
            · exact (h2.span hsU).trans ⟨by simp, fun j h1 h2 => Below.heap_setCell _ _ _ j (by show j ≠ wr.heap.size; omega)⟩
            · have := HKK.out; subst this; simpa using b2.set (.int .i64 ((pre.length : Int) + 1))
            · exact (hbU.trans (h2.mono (by omega))).setCell (p := ⟨wr.heap.size, 0, none⟩) (Nat.le_refl _) _
            · have := h2.size; simp; omega
        · have HNO := hideP (fun h => hx1 (HSN.out.1 h))
          have hx2 : ((x1 : Int) != (pre.length : Int)) = true := by simp; omega
          gi_wp2_with fail
          refine wl_regionIn U (Bl.refl _) (by kernel_rfl) (by kernel_rfl) (by kernel_rfl) ?_
          repeat (go_big_quiet_step (first | (go_at_call 18; exact wl_call (AT.out _))))
          refine wpQuiet_nil ?_
          intro _ hw'
          obtain ⟨z, hw''⟩ := hw'
          subst hw''
          clear wne z0 z1 y0 y1 y2 q0 q1 q2 ne1 AT
          obtain ⟨U2, h2⟩ := z
          dsimp only
          have br2 := boxed_bl bRw (show Bl wr U2 from (show Bl wr U from hbU).trans h2)
          have cr := br2.cell
          have fr := br2.frozen
          gi_wp2
          exact ⟨(h2.keeps _).trans ((KeepsOthers.setCell _ _ _).from _), .inl ⟨rfl, by rw [hlm]; exact HNO.out⟩⟩
      case done =>
        rintro D zs U hD hS ⟨⟨hpre, hps⟩, hbx, hbU, hsU⟩ hKD
        have hzl : zs.length = R := by have := congrArg List.length hS; simpa using this
        rw [hzl] at hps hbx
        have cs := (boxed_bl bSw (show Bl wr U from hbU)).cell
        have ck := hbx.cell
        have br := boxed_bl bRw (show Bl wr U from hbU)
        have mn : ∀ W, (Builtin.min_ #[3, 3] 3 #[.int .i64 R, .int .i64 (s + 1)]).run Try.prog W = .ok (.int .i64 (R)) W := fun W => by
          rw [min2_run]
          rw [if_neg (by omega)]
        have ws : wrap64 s = s := by unfold wrap64; omega
        have ws1 : wrap64 (s + 1) = s + 1 := by unfold wrap64; omega
        have HKD := hideP hKD
        have HDD := hideP hD
        clear hKD hD
        go_wp2_with fail
        refine (AW.out _).mono ?_
        rintro e w8 ⟨rfl, h8⟩
        have br8 := boxed_bl br h8
        have cr8 := br8.cell
        have fr8 := br8.frozen
        go_wp2
        have hK5 : w8.heap[D]? = some (.deferred (some [])) := (Below.block h8 D (Array.getElem?_eq_some_iff.1 HKD.out).1).trans HKD.out
        have hK6 := (KeepsOthers.setCell w8 ⟨w.heap.size + 1 + 1, 0, none⟩ (.bool true)).same D _ hK5 rfl
        refine ⟨by simp, .inl ⟨_, _, rfl, run_takeDeferred hK6, ?_⟩⟩
        have hc6 := cell_kept (World.cell?_setCell_same' w8 ⟨w.heap.size + 1 + 1, 0, none⟩ (.bool true) (by rw [cr8]; rfl)) (grownBy_putObj' _ D (.deferred none)) (fun r e => by cases e; exact ⟨_, hK6, rfl⟩)
        refine ⟨.bool true, ?_, rfl, ?_⟩
        · simp [results, Try.f6, go_sem, hc6]
        · have t0 : Bl w wr := hBV.trans bV6
          have t1 : Below w.heap.size w w8 := (t0.trans hbU).trans h8
          have t2 := t1.setCell (p := ⟨w.heap.size + 1 + 1, 0, none⟩) (by simp; omega) (.bool true)
          exact t2.trans (belowK_b (w := w) (Nat.le_refl _) _ D _ _ (by have := HDD.out; omega) hK6 rfl rfl)
      case stop =>
        rintro D c pre U hD hpre hX hKD
        rcases hX with ⟨rfl, hno⟩ | ⟨rfl, hlen, hbx, hbU⟩
        · exact absurd hpre hno
        · have hle := (range_own hpre).2
          rw [List.length_map] at hle
          have hsR : s + 1 ≤ (R : Int) := by omega
          rw [hlen] at hbx
          clear hpre hlen hle
          refine wpIn_wide.2 ?_
          have cs := (boxed_bl bSw (show Bl wr U from hbU)).cell
          have ck := hbx.cell
          have br := boxed_bl bRw (show Bl wr U from hbU)
          have mn : ∀ W, (Builtin.min_ #[3, 3] 3 #[.int .i64 R, .int .i64 (s + 1)]).run Try.prog W = .ok (.int .i64 (s + 1)) W := fun W => by
            rw [min2_run]
            by_cases hq : s + 1 < (R : Int)
            · rw [if_pos hq]
            · rw [if_neg hq, show (R : Int) = s + 1 by omega]
          have ws : wrap64 s = s := by unfold wrap64; omega
          have ws1 : wrap64 (s + 1) = s + 1 := by unfold wrap64; omega
          have HKD := hideP hKD
          have HDD := hideP hD
          clear hKD hD
          go_wp2_with fail
          refine (AW.out _).mono ?_
          rintro e w8 ⟨rfl, h8⟩
          have br8 := boxed_bl br h8
          have cr8 := br8.cell
          have fr8 := br8.frozen
          go_wp2
          have hK5 : w8.heap[D]? = some (.deferred (some [])) := (Below.block h8 D (Array.getElem?_eq_some_iff.1 HKD.out).1).trans HKD.out
          have hK6 := (KeepsOthers.setCell w8 ⟨w.heap.size + 1 + 1, 0, none⟩ (.bool true)).same D _ hK5 rfl
          refine ⟨by simp, .inl ⟨_, _, rfl, run_takeDeferred hK6, ?_⟩⟩
          have hc6 := cell_kept (World.cell?_setCell_same' w8 ⟨w.heap.size + 1 + 1, 0, none⟩ (.bool true) (by rw [cr8]; rfl)) (grownBy_putObj' _ D (.deferred none)) (fun r e => by cases e; exact ⟨_, hK6, rfl⟩)
          refine ⟨.bool true, ?_, rfl, ?_⟩
          · simp [results, Try.f6, go_sem, hc6]
          · have t0 : Bl w wr := hBV.trans bV6
            have t1 : Below w.heap.size w w8 := (t0.trans hbU).trans h8
            have t2 := t1.setCell (p := ⟨w.heap.size + 1 + 1, 0, none⟩) (by simp; omega) (.bool true)
            exact t2.trans (belowK_b (w := w) (Nat.le_refl _) _ D _ _ (by have := HDD.out; omega) hK6 rfl rfl)
set_option maxRecDepth 100000 in
set_option maxHeartbeats 4000000 in
theorem applies_out (va : Value) (xa : List Int) (vv : Value) (xv : List Int) (rows cols s : Int) (w : World) (ha : Rq 1 cI w va xa) (hv : Rq 1 cI w vv xv) (h : ¬ (Sml 100 xa ∧ Sml 100 xv ∧ fitB rows cols xa.length = true ∧ (xv.length : Int) = cols)) :
    Calls Try.prog 6 #[va, vv, .int .i64 rows, .int .i64 cols, .int .u8 s] w fun e w' => e = .returned (.bool true) ∧ Bl w w' := by
  have AW := hideP awake6_any
  obtain ⟨V, hV⟩ : ∃ V, V = ((w.alloc (.cells #[.int .i64 cols] 3)).alloc (.cells #[.int .u8 s] 5)).alloc (.cells #[.bool false] 4) := ⟨_, rfl⟩
  have hBV : Bl w V := by rw [hV]; exact (((Bl.refl _).alloc _).alloc _).alloc _
  have bC : Boxed V w.heap.size 3 (.int .i64 cols) := by rw [hV]; exact ((Boxed.new w 3 _).alloc _).alloc _
  have bR : Boxed V (w.heap.size + 1 + 1) 4 (.bool false) := by
    rw [hV]
    have := Boxed.new ((w.alloc (.cells #[.int .i64 cols] 3)).alloc (.cells #[.int .u8 s] 5)) 4 (.bool false)
    simpa using this
  have F1 := hideP (few6_any va xa V (ha.later hBV))
  have F2 := hideP (few6_any vv xv V (hv.later hBV))
  obtain ⟨pa, ca, rfl, _, _⟩ := ha.cut
  obtain ⟨pv, cv, rfl, _, _⟩ := hv.cut
  have HH := hideP h
  have HA := hideP ha
  have HVV := hideP hv
  have HV := hideP hV
  clear h ha hv hV
  obtain ⟨la, hla⟩ : ∃ la, la = xa.length := ⟨_, rfl⟩
  obtain ⟨lv, hlv⟩ : ∃ lv, lv = xv.length := ⟨_, rfl⟩
  rw [← hla] at F1 HA HH ⊢
  rw [← hlv] at F2 HVV HH ⊢
  have HLA := hideP hla
  have HLV := hideP hlv
  clear hla hlv
  go_enter Try.func6, Try.ntmps6
  go_wp2_with fail
  rw [← HV.out]
  refine F1.out.mono ?_
  rintro e w1 ⟨b1, rfl, hb1, hw1⟩
  replace hw1 := hw1.symm
  subst hw1
  clear F1
  cases b1 with
  | false =>
    go_wp2_with fail
    refine (AW.out _).mono ?_
    rintro e w9 ⟨rfl, h9⟩
    have hB9 : Bl V w9 := (Bl.refl V).trans h9
    have cr := (boxed_bl bR hB9).cell
    have fr := (boxed_bl bR hB9).frozen
    go_wp2
    simp [bodyPost, results, Try.results6, go_sem, cr]
    exact Bl.set (hBV.trans hB9) (by simp; omega) _
  | true =>
    have S1 := hideP (hb1 rfl).2
    clear hb1
    go_wp2_with fail
    refine F2.out.mono ?_
    rintro e w1 ⟨b2, rfl, hb2, hw1⟩
    replace hw1 := hw1.symm
    subst hw1
    clear F2
    cases b2 with
    | false =>
      go_wp2_with fail
      refine (AW.out _).mono ?_
      rintro e w9 ⟨rfl, h9⟩
      have hB9 : Bl V w9 := (Bl.refl V).trans h9
      have cr := (boxed_bl bR hB9).cell
      have fr := (boxed_bl bR hB9).frozen
      go_wp2
      simp [bodyPost, results, Try.results6, go_sem, cr]
      exact Bl.set (hBV.trans hB9) (by simp; omega) _
    | true =>
      have S2 := hideP (hb2 rfl).2
      clear hb2
      have cC := bC.cell
      cases hf : fitB rows cols la with
      | false =>
        go_wp2_with fail
        refine (mWholeF_no _ _ _ _ _ _ hf).mono ?_
        rintro e w2 ⟨rfl, h2⟩
        clear cC
        go_wp2_with fail
        refine (AW.out _).mono ?_
        rintro e w9 ⟨rfl, h9⟩
        have hB9 : Bl V w9 := (h2.alloc _).trans h9
        have cr := (boxed_bl bR hB9).cell
        have fr := (boxed_bl bR hB9).frozen
        go_wp2
        simp [bodyPost, results, Try.results6, go_sem, cr]
        exact Bl.set (hBV.trans hB9) (by simp; omega) _
      | true =>
        obtain ⟨R, C, rfl, rfl, hd, hn⟩ := fitB_nat hf
        have hne : lv ≠ C := fun e => HH.out ⟨S1.out, S2.out, hf, by rw [e]⟩
        have hne' : ((lv : Int) == (C : Int)) = false := by simp; omega
        have hC1 := hd.c1
        clear hn
        go_wp2_with fail
        refine (whole6_call R C pa la ca xa _ (HA.out.later hBV) hf HLA.out.symm S1.out).mono ?_
        rintro e w2 ⟨p1, c1, rfl, hx, h2⟩
        clear hx cC
        have m1 := MBox.new w2 R C p1 la c1 27
        cases hf2 : fitB lv ((1 : Nat) : Int) lv with
        | false =>
          go_wp2_with fail
          refine (mWholeF_no _ _ _ _ _ _ hf2).mono ?_
          rintro e w3 ⟨rfl, h3⟩
          obtain ⟨x0, x1, x2, _, _, _, lt⟩ := m1.later h3
          go_wp2_with fail
          refine (mApplyF_no R C p1 la c1 none 0 0 _ hf (by omega)).mono ?_
          rintro e w4 ⟨rfl, h4⟩
          clear x0 x1 x2
          have b4 : Bl V w4 := (((h2.alloc _).trans h3).alloc _).trans h4
          have cC := (boxed_bl bC b4).cell
          go_wp2_with fail
          refine (AW.out _).mono ?_
          rintro e w9 ⟨rfl, h9⟩
          have hB9 : Bl V w9 := (b4).trans h9
          have cr := (boxed_bl bR hB9).cell
          have fr := (boxed_bl bR hB9).frozen
          go_wp2
          simp [bodyPost, results, Try.results6, go_sem, cr]
          exact Bl.set (hBV.trans hB9) (by simp; omega) _
        | true =>
          go_wp2_with fail
          refine (whole6_call lv 1 pv lv cv xv _ (HVV.out.later ((hBV.trans h2).alloc _)) hf2 HLV.out.symm S2.out).mono ?_
          rintro e w3 ⟨p2, c2, rfl, hy, h3⟩
          clear hy
          obtain ⟨x0, x1, x2, _, _, _, lt⟩ := m1.later h3
          go_wp2_with fail
          refine (mApplyF_no R C p1 la c1 p2 lv c2 _ hf hne).mono ?_
          rintro e w4 ⟨rfl, h4⟩
          clear x0 x1 x2
          have b4 : Bl V w4 := (((h2.alloc _).trans h3).alloc _).trans h4
          have cC := (boxed_bl bC b4).cell
          go_wp2_with fail
          refine (AW.out _).mono ?_
          rintro e w9 ⟨rfl, h9⟩
          have hB9 : Bl V w9 := (b4).trans h9
          have cr := (boxed_bl bR hB9).cell
          have fr := (boxed_bl bR hB9).frozen
          go_wp2
          simp [bodyPost, results, Try.results6, go_sem, cr]
          exact Bl.set (hBV.trans hB9) (by simp; omega) _
theorem walk_MatApplies (va : Value) (xa : List Int) (vv : Value) (xv : List Int) (rows cols s : Int) (w : World) (ha : Rq 1 cI w va xa) (hv : Rq 1 cI w vv xv) (hs : 0 ≤ s ∧ s ≤ 255) :
    Calls Try.prog 6 #[va, vv, .int .i64 rows, .int .i64 cols, .int .u8 s] w fun e w' => e = .returned (.bool true) ∧ Bl w w' := by
  by_cases h : Sml 100 xa ∧ Sml 100 xv ∧ fitB rows cols xa.length = true ∧ (xv.length : Int) = cols
  · obtain ⟨h1, h2, h3, h4⟩ := h
    obtain ⟨R, C, rfl, rfl, hd, hn⟩ := fitB_nat h3
    obtain ⟨pa, ca, rfl, _, _⟩ := ha.cut
    obtain ⟨pv, cv, rfl, _, _⟩ := hv.cut
    have e : xv.length = C := by omega
    rw [e] at hv ⊢
    exact applies_main pa xa.length ca xa pv cv xv R C s w ha hv h3 rfl e h1 h2 hs
  · exact applies_out va xa vv xv rows cols s w ha hv h
end Go.Proofs.Ytokbmbgiimbkpaa

/- A slice of whole numbers as an argument: opened. -/
namespace Go.Proofs.Ytokbmbgiimbkpaa
open Go.ChangeShapes Go.WideShapes Go.ChangeAt Go.RowKit
set_option linter.unusedVariables false

theorem Try.cellsInt : Try.prog.cellsOf 3 = 1 := by kernel_rfl
theorem cell_block_lt {W : World} {b o : Nat} {v : Value} (h : W.cell? ⟨b, o, none⟩ = some v) : b < W.heap.size := by
  rcases Nat.lt_or_ge b W.heap.size with h' | h'
  · exact h'
  · have : W.heap[b]? = none := Array.getElem?_eq_none h'
    simp [World.cell?, this] at h
set_option maxRecDepth 1000000 in
theorem open_row {H : Type} {enc : TypeId × Value → H} {W : World} {b0 : Nat} {v : Value} {d : DataW H} {p : List MemPlace}
    (hv : Value.okWide Try.prog W .any b0 22 v) (h : DataW.Trod enc Try.prog W 0 (fun _ => true) true 22 v d p) : ∃ ns : List Int, Rq 1 cI W v ns ∧ ∀ n ∈ ns, (Lit.int .i64 n).wf = true := by
  obtain ⟨a0, len, cap, rfl⟩ := okWide_slice Try.underlying22 hv
  obtain ⟨fuel, hf⟩ := h
  rcases open_ints Try.underlying22 Try.underlying3 Try.cellsInt hf with ⟨hcs, hx⟩ | ⟨a, len', cap', zs, hcs, _, hl, hm, hz, hx, hcell, hwz⟩
  · simp [Value.cells] at hcs
    obtain ⟨rfl, rfl, rfl⟩ := hcs
    exact ⟨[], .inl ⟨none, 0, rfl, rfl, fun _ => rfl⟩, fun n hn => by simp at hn⟩
  · simp [Value.cells] at hcs
    obtain ⟨rfl, rfl, rfl⟩ := hcs
    simp only [if_true] at hz
    refine ⟨zs.take len, ?_, fun n hn => hwz n (List.mem_of_mem_take hn)⟩
    by_cases h0 : len = 0
    · subst h0
      exact .inl ⟨some a, cap, rfl, by simp, nofun⟩
    · have c0 := hcell 0 (by omega)
      obtain ⟨b, off, rfl, hc⟩ := ints_at hcell (by omega)
      have hb : b < W.heap.size := by
        have := hc 0 (by omega)
        exact cell_block_lt this
      have hll : (zs.take len).length = len := by simp; omega
      refine .inr ⟨b, off, cap, by rw [hll], by omega, hb, fun j x hj k u hu => ?_⟩
      rcases k with _ | k
      · simp at hu
        subst hu
        have hj2 := (List.getElem?_eq_some_iff.1 hj).1
        have := hc j (by omega)
        rw [List.getElem?_take] at hj
        split at hj
        · have e : zs.getD j 0 = x := by simp [List.getD, hj]
          rw [e] at this
          simpa using this
        · cases hj
      · simp at hu
end Go.Proofs.Ytokbmbgiimbkpaa

/- MatApplies: a matrix applied to a row is the product with it as a column; gone through, its rows are told in order, as far as it is asked (of 256 numbers from -100 up to 100). Conditions: none (every input). -/
namespace Go.Proofs.Ytokbmbgiimbkpaa
open Go.ChangeShapes Go.WideShapes Go.ChangeAt Go.RowKit
set_option linter.unusedVariables false

theorem own_MatApplies : ownKnob Try.prog.godebug = none := by kernel_rfl
theorem laid_MatApplies : laidOutB Try.prog = true := by kernel_rfl
set_option maxRecDepth 100000 in
theorem lifted_MatApplies (os : Os) (started : os.Started) (H : Type) (enc : TypeId × Value → H) :
    ReturnsInHanded {} Try.checked os 6 .any (Rows.matAppliesSpec.pre6 enc Try.prog Try.f6 Rows.matAppliesRow.domain false) (Rows.matAppliesSpec.post enc Try.prog Try.f6 false true false false) := by
  refine returnsInHanded_of_change (C := Try.checked) own_MatApplies started (by kernel_rfl) Try.func6
    (ChangeSpec.witness6 (enc := enc) (C := Try.checked) false ⟨#[], #[.slice none 0 0, .slice none 0 0, .int .i64 0, .int .i64 0, .int .u8 0], []⟩ 8 (by kernel_rfl) (by kernel_rfl) (by kernel_rfl) (by kernel_rfl)) ?_
  intro W base args ds gs before hval0 hW hcnd _
  have hval : ∀ (j : Nat) t v, Try.f6.params[j]? = some t → args[j]? = some v → Value.okWide Try.prog W .any base t v := hval0
  have hW' := hW
  obtain ⟨p, q, hA0, hV, rfl, hfz, hnd⟩ := hW
  have hA : DataW.TrodAll enc Try.prog W 0 (fun _ => true) true Try.f6.params.toList args.toList ds p := hA0
  rw [Try.params6] at hA hval
  obtain ⟨v0, vs0, d0, ds0, p0, q0, hargs, rfl, rfl, h0, r0⟩ := trodAll_cons hA
  obtain ⟨v1, vs1, d1, ds1, p1, q1, rfl, rfl, rfl, h1, r1⟩ := trodAll_cons r0
  obtain ⟨v2, vs2, d2, ds2, p2, q2, rfl, rfl, rfl, h2, r2⟩ := trodAll_cons r1
  obtain ⟨v3, vs3, d3, ds3, p3, q3, rfl, rfl, rfl, h3, r3⟩ := trodAll_cons r2
  obtain ⟨v4, vs4, d4, ds4, p4, q4, rfl, rfl, rfl, h4, r4⟩ := trodAll_cons r3
  obtain ⟨rfl, rfl, rfl⟩ := trodAll_nil r4
  obtain rfl : args = #[v0, v1, v2, v3, v4] := by cases args; simp_all
  obtain ⟨rfl, rfl⟩ := trodVars_none hV
  have hltA := fun x hx => hW'.lt x hx
  obtain ⟨a0, R0, w0⟩ := open_row (hval 0 22 v0 rfl rfl) h0
  obtain ⟨a1, R1, w1⟩ := open_row (hval 1 22 v1 rfl rfl) h1
  obtain ⟨a2, e2, _, _, w2⟩ := open_int Try.underlying3 (hval 2 3 v2 rfl rfl) h2
  subst e2
  obtain ⟨a3, e3, _, _, w3⟩ := open_int Try.underlying3 (hval 3 3 v3 rfl rfl) h3
  subst e3
  obtain ⟨a4, e4, _, _, w4⟩ := open_int Try.underlying5 (hval 4 5 v4 rfl rfl) h4
  subst e4
  have i4 := bounds_u8 w4
  clear hA0 hval0
  refine (walk_MatApplies v0 a0 v1 a1 a2 a3 a4 W R0 R1 i4).mono fun e W' ⟨he, bel⟩ => ?_
  subst he
  exact ⟨_, rfl, _, _, _, [], _, [], hW', trodAll_mk1 (shut_bool Try.underlying4 _), (trodAll_cons_mk (Below.trod laid_MatApplies (by kernel_rfl) (of_decide_eq_true (by kernel_rfl)) h0 bel (fun x hx => by have := hltA x (by simp [hx]); simpa using this)) (trodAll_cons_mk (Below.trod laid_MatApplies (by kernel_rfl) (of_decide_eq_true (by kernel_rfl)) h1 bel (fun x hx => by have := hltA x (by simp [hx]); simpa using this)) (trodAll_cons_mk (Below.trod laid_MatApplies (by kernel_rfl) (of_decide_eq_true (by kernel_rfl)) h2 bel (fun x hx => by have := hltA x (by simp [hx]); simpa using this)) (trodAll_cons_mk (Below.trod laid_MatApplies (by kernel_rfl) (of_decide_eq_true (by kernel_rfl)) h3 bel (fun x hx => by have := hltA x (by simp [hx]); simpa using this)) (trodAll_cons_mk (Below.trod laid_MatApplies (by kernel_rfl) (of_decide_eq_true (by kernel_rfl)) h4 bel (fun x hx => by have := hltA x (by simp [hx]); simpa using this)) trodAll_mk0))))), rfl, Below.frame bel _, fun h => by cases h⟩

theorem proved_MatApplies : Rows.MatAppliesSaid :=
  OpenClaim.holds_of_wide 6 Try.f6 rfl rfl rfl rfl rfl rfl rfl ⟨rfl, rfl, rfl, rfl, rfl⟩ rfl rfl rfl rfl rfl (by kernel_rfl) Try.func6 (by kernel_rfl)
    (of_decide_eq_true (by kernel_rfl)) (by unfold Func.isWrapper; first | (rw [if_pos (by decide +kernel)]; kernel_rfl) | (rw [if_neg (by decide +kernel)]; exact ⟨rfl, rfl⟩))
    (fun os started H enc _ => lifted_MatApplies os started H enc)
#print axioms proved_MatApplies
end Go.Proofs.Ytokbmbgiimbkpaa

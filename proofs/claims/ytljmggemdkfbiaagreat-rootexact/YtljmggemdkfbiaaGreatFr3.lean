/- Contracts of frac's Fine (layer 4). -/
import Derived.Test.YtljmggemdkfbiaaGreatFr2
import Derived.Test.YtljmggemdkfbiaaGreatWlr
namespace Go.Proofs.YtljmggemdkfbiaaGreat
open Go.RowKit
set_option linter.unusedSimpArgs false
set_option linter.unusedVariables false

theorem FBox.wl {V : World} {b : Nat} {x : Fr} (h : FBox V b x) : (∀ z : Wl V, z.w.cell? ⟨b, 0, none⟩ = some (.int .i64 x.n)) ∧ (∀ z : Wl V, z.w.cell? ⟨b, 1, none⟩ = some (.int .i64 x.d)) ∧ (∀ z : Wl V, z.w.cell? ⟨b, 2, none⟩ = some (.bool x.bad)) :=
  ⟨fun z => (h.later z.bl).c0, fun z => (h.later z.bl).c1, fun z => (h.later z.bl).c2⟩
/-- The world behind the box of one fraction. -/
structure OneA (w W : World) (a : Fr) : Prop where
  eq : W = w.alloc (.cells #[.int .i64 a.n, .int .i64 a.d, .bool a.bad] 34)
  bl : Bl w W
  ba : FBox W w.heap.size a
  size : W.heap.size = w.heap.size + 1
theorem oneA_ex (w : World) (a : Fr) : ∃ W, OneA w W a := ⟨_, rfl, (Bl.refl _).alloc _, FBox.new w a _, by simp⟩

/-- Are they the same, number by number? -/
def eqR (a b : Fr) : Bool := a.n == b.n && (a.d == b.d && a.bad == b.bad)
theorem eqR_iff {a b : Fr} : eqR a b = true ↔ a = b := by
  unfold eqR
  rw [Bool.and_eq_true, Bool.and_eq_true, beq_iff_eq, beq_iff_eq, beq_iff_eq]
  constructor
  · rintro ⟨h1, h2, h3⟩; exact Fr.ext' h1 h2 h3
  · rintro rfl; exact ⟨rfl, rfl, rfl⟩
theorem Tryz.frFields : Tryz.prog.underlying 34 = some (.struct (Tryz.prog.fieldsOf 34)) := by kernel_rfl
theorem Tryz.frHeld : Tryz.prog.stoodInHeld 34 = false := by kernel_rfl
theorem Tryz.frGuard : Tryz.prog.eqGuardType Tryz.prog.depth 34 = false := by kernel_rfl
theorem Tryz.frList : (Tryz.prog.fieldsOf 34).toList.map (fun f => (f.name, f.type, f.offset)) = [("N", 3, 0), ("D", 3, 1), ("Bad", 4, 2)] := by kernel_rfl
theorem eqFields_map (d : Nat) (xs ys : Array Value) (fs gs : List Field) (h : fs.map (fun f => (f.name, f.type, f.offset)) = gs.map (fun f => (f.name, f.type, f.offset))) : Op.eqFields d xs ys fs = Op.eqFields d xs ys gs := by
  induction fs generalizing gs with
  | nil => cases gs with
    | nil => rfl
    | cons => simp at h
  | cons f fs ih => cases gs with
    | nil => simp at h
    | cons g gs =>
      simp only [List.map_cons, List.cons.injEq, Prod.mk.injEq] at h
      simp only [Op.eqFields]
      rw [h.1.1, h.1.2.1, h.1.2.2, ih gs h.2]
theorem eql_fr (a b : Fr) (w : World) : (binOp .eql 34 (frV a) (frV b)).run Tryz.prog w = .ok (.bool (eqR a b)) w := by
  rw [run_eql_struct, run_equalIn_agg _ _ _ _ _ Tryz.frFields Tryz.frHeld]
  rw [eqFields_map 9999 #[.int .i64 a.n, .int .i64 a.d, .bool a.bad] #[.int .i64 b.n, .int .i64 b.d, .bool b.bad] _ [{ name := "N", type := 3, offset := 0, embedded := false, tag := "", pkgPath := "", byteOffset := 0 }, { name := "D", type := 3, offset := 1, embedded := false, tag := "", pkgPath := "", byteOffset := 0 }, { name := "Bad", type := 4, offset := 2, embedded := false, tag := "", pkgPath := "", byteOffset := 0 }] Tryz.frList]
  cases h1 : (a.n == b.n) <;> cases h2 : (a.d == b.d) <;> cases h3 : (a.bad == b.bad) <;> simp [Op.eqFields, part, go_sem, eqR, h1, h2, h3]
theorem fineR_any (a : Fr) (w : World) :
    Calls Tryz.prog 186 #[frV a] w fun e w' => e = .returned (.bool (fineR a)) ∧ Bl w w' := by
  obtain ⟨W, X⟩ := oneA_ex w a
  have HX := hideP X
  clear X
  obtain ⟨n, d, bd⟩ := a
  have N := hideP (new_any n d)
  obtain ⟨a0, a1, a2⟩ := HX.out.ba.wl
  dsimp only at a0 a1 a2
  cases bd
  · have FN := fine_new (a := ⟨n, d, false⟩) rfl
    have FN' : fineR ⟨n, d, false⟩ = eqR ⟨n, d, false⟩ (newR n d) := by rw [Bool.eq_iff_iff, FN, eqR_iff]
    rw [FN']
    clear FN FN'
    generalize newR n d = r at *
    have EG := Tryz.frGuard
    have EQ := eql_fr ⟨n, d, false⟩ r
    generalize eqR ⟨n, d, false⟩ r = b at *
    go_enter Tryz.func186, Tryz.ntmps186
    go_wp2_with fail
    rw [← HX.out.eq]
    have wne := wl_ne W
    refine wl_region W (Bl.refl _) (by kernel_rfl) (by kernel_rfl) ?_
    repeat (go_big_quiet_step (first | (go_at_call 17; exact wl_call (N.out _))))
    refine wpQuiet_nil ?_
    intro _ hw'
    obtain ⟨z, hw''⟩ := hw'
    subst hw''
    clear wne
    obtain ⟨w1, h1⟩ := z
    dsimp only
    clear a0 a1 a2
    go_wp2
    go_ret
    exact ⟨rfl, HX.out.bl.trans h1⟩
  · go_enter Tryz.func186, Tryz.ntmps186
    go_wp2_with fail
    rw [← HX.out.eq]
    have wne := wl_ne W
    refine wl_region W (Bl.refl _) (by kernel_rfl) (by kernel_rfl) ?_
    repeat (go_big_quiet_step (first | (go_at_call 17; exact wl_call (N.out _))))
    refine wpQuiet_nil ?_
    intro _ hw'
    obtain ⟨z, hw''⟩ := hw'
    subst hw''
    clear wne
    obtain ⟨w1, h1⟩ := z
    dsimp only
    clear a0 a1 a2
    go_wp2
    go_ret
    exact ⟨rfl, HX.out.bl.trans h1⟩
end Go.Proofs.YtljmggemdkfbiaaGreat

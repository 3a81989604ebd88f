/- A region that draws its order and whose callees may lay new blocks, walked once, in the order of the text: the class of worlds behind a given one. -/
import Derived.Test.YtljmggemdkfbiaaGreatMid
import Derived.BigQuiet
namespace Go.Proofs.YtljmggemdkfbiaaGreat
open Go.RowKit
set_option linter.unusedSimpArgs false
set_option linter.unusedVariables false

/-- A world behind V: of what was there nothing has turned. -/
structure Wl (V : World) where
  w : World
  bl : Bl V w
theorem wl_ne (V : World) : Nonempty (Wl V) := ⟨⟨V, Bl.refl V⟩⟩
theorem wl_region {P : Program} {id : Nat} {Q : Exit → Act → World → Prop} {a : Act} {w : World} {l : List Oper} (V : World) (hV : Bl V w) (hm : P.follows .mixedOrders = true) (hB : Region.lexB .any l.toArray = true)
    (h : wpQuiet P l.toArray (fun w' => ∃ z : Wl V, w' = z.w) (fun a' => ∀ w', (∃ z : Wl V, w' = z.w) → Q .normal a' w') l a) : (Code.region id l.toArray true).wp P Q a w :=
  wp_region_quiet (C := fun w' => ∃ z : Wl V, w' = z.w) hm hB ⟨⟨w.drew, hV.drew⟩, rfl⟩ (by simpa using h)
theorem wl_call {P : Program} {f : FuncId} {args : Array Value} {V : World} {z : Wl V} {v : Value} (h : Calls P f args z.w fun e w' => e = .returned v ∧ Bl z.w w') :
    Calls P f args z.w fun e w'' => e = .returned v ∧ ∃ z' : Wl V, w'' = z'.w :=
  h.mono fun _ w' ⟨he, hb⟩ => ⟨he, ⟨w', z.bl.trans hb⟩, rfl⟩
theorem enters {f : FuncId} {fn : Func} {c : Code} (hf : Tryz.prog.funcs[f]? = some fn) (hname : (fn.name == "runtime.NumGoroutine") = false) (hb : fn.body = some c) :
    ∀ (args : Array Value) (w : World), (callFunc f args).run Tryz.prog w = .ok (.enter f args) w := by
  intro args w
  have h1 : fn.name ≠ "runtime.NumGoroutine" := by simpa using hname
  simp [callFunc, hf, h1, hb, mark]
theorem app1 (x p : Value) : #[x] ++ #[p] = #[x, p] := rfl
theorem app2 (x p q : Value) : #[x] ++ #[p, q] = #[x, p, q] := rfl
end Go.Proofs.YtljmggemdkfbiaaGreat

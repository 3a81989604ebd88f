/- A stretch of a region that draws its order, inside a fence, by what holds between its operations, whatever their order; an append as one of its operations. -/
import Derived.Test.YtljmggemdkfbiaaGreatMid
import Derived.Deep.RegionHeld3
import Derived.RangeFuncNested
import Derived.Maps.OwnIn
namespace Go.Proofs.YtljmggemdkfbiaaGreat
open Go.RowKit
set_option linter.unusedSimpArgs false
set_option linter.unusedVariables false

/-- k operations are to come in this stretch: I holds between them. -/
theorem wpAnyIn_phase {F : Fence} {n : Nat} {P : Program} {md : Region.Mode} {ops : Array Oper} {Q : Exit → Act → World → Prop} {fuel : Nat} (I : Nat → Array Bool → Act → World → Prop)
    (fin : ∀ l a w, I 0 l a w → wpAnyIn F n P md ops Q fuel l a w)
    (live : ∀ k l a w, I (k + 1) l a w → Region.ready md ops l = [] → False)
    (step : ∀ k l a w i, I (k + 1) l a w → l.getD i true = false → (∀ e, (∃ o, ops[i]? = some o ∧ e ∈ o.after) → Region.binds md e = true → l.getD e.on false = true) → wpOpIn F n P ops Q i (fun a' w' => I k (l.setIfInBounds i true) a' w') a w) :
    ∀ (k : Nat) (l : Array Bool) (a : Act) (w : World), I k l a w → wpAnyIn F n P md ops Q (fuel + k) l a w
  | 0, l, a, w, h => fin l a w h
  | k + 1, l, a, w, h => ⟨fun h0 => (live k l a w h h0).elim, fun i hi => by
      obtain ⟨h1, o, ho, hall⟩ := mem_ready.1 hi
      refine wpOpIn_mono (fun a' w' h' => wpAnyIn_phase I fin live step k _ a' w' h') (step k l a w i h h1 (fun e ⟨o', ho', he⟩ hb => ?_))
      rw [ho] at ho'
      cases ho'
      exact hall e he hb⟩
/-- An append, as one operation. -/
theorem stepIn_append {F : Fence} {nF : Nat} {P : Program} {o : Oper} {a : Act} {w : World} {K : Act → World → Prop} {Q : Exit → Act → World → Prop} (s x : Operand) (t : TypeId)
    (ho : o.op = .call { callee := .builtin .append, args := #[s, x], argTypes := #[t, t] })
    (base : Nat) (e : TypeId) (i : TypeInfo) (z : Value) (size bytes : Nat) (ht : P.underlying t = some (.slice e)) (hi : P.info? e = some i) (hz : i.zero = some z)
    (hsize : i.size = size) (hby : i.bytes = bytes) (hzs : z.cells.size = size) (hsz : 0 < size)
    (v : Value) (n : Nat) (xs : List Value) (hs : a.eval s = v) (hown : w.ownsRow base e size v n xs)
    (ad : Addr) (m c : Nat) (news : List Value) (hx : a.eval x = .slice (some ad) m c) (hl : news.length = m * size) (hnews : ∀ j u, news[j]? = some u → w.cell? (ad.add j) = some u) (h1 : ∀ u ∈ news, u.oneCell' = true)
    (h63 : n + m ≤ maxLen) (hbytes : (n + m) * bytes ≤ 140737488355328) (hbase : base ≤ w.heap.size)
    (h : ∀ v' w', w'.ownsRow base e size v' (n + m) (xs ++ news) → w.grownBy w' v.ownBlock → (v'.ownBlock = v.ownBlock ∨ v'.ownBlock = some w.heap.size) → K (a.put o.dst v') w') :
    Oper.wpIn F nF P o a w K Q := by
  obtain ⟨v', w', hr, h2, h3, h4, h5⟩ := run_append_own_at (P := P) w base t o.type e i z size bytes ht hi hz hsize hby hzs hsz v n xs hown ad m c news hl hnews h1 h63 hbytes hbase
  unfold Oper.wpIn
  refine ⟨by simp [Oper.about, ho, resolve, Target.leads, Sem.run_pure], ?_⟩
  rw [Oper.semAt_plain F _ _ (by rw [ho]; intro c hc'; cases hc')]
  simp [execOp, ho, resolve, invoke, builtin, hs, hx, hr, Result.andThen]
  exact h v' w' h2 h3 h5
/-- One more to come. -/
def one' (b : Bool) : Nat := if b then 0 else 1
theorem getD_lt' {l : Array Bool} {i : Nat} (h : l.getD i true = false) : i < l.size := by
  rcases Nat.lt_or_ge i l.size with h' | h'
  · exact h'
  · simp [Array.getD, Nat.not_lt.2 h'] at h
end Go.Proofs.YtljmggemdkfbiaaGreat

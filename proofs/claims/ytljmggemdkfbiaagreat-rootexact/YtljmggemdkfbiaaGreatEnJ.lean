/- Enclosed numbers beside fractions: the same steps of both; what is told of enclosed numbers encloses what is told of fractions, where that may be one. Mathematics alone. -/
import Derived.Test.YtljmggemdkfbiaaGreatEnH
import Derived.Test.YtljmggemdkfbiaaGreatFrN
import Derived.Test.YtljmggemdkfbiaaGreatVeHF
import Derived.Test.YtljmggemdkfbiaaGreatVeHN
import Derived.Test.YtljmggemdkfbiaaGreatVeL
namespace Go.Proofs.YtljmggemdkfbiaaGreat
open Go.RowKit
set_option linter.unusedSimpArgs false
set_option linter.unusedVariables false

/-- It encloses the fraction, if that may be one; or it is Bad. -/
def EncF (e : En) (f : Fr) : Prop := fineR f = true → Enq e f.n f.d
theorem encF_wrong (e : En) : EncF e wrongR := fun h => by cases h
theorem fine_dp {f : Fr} (h : fineR f = true) : 0 < f.d := by have := fineR_iff.1 h; omega
theorem encF_of {e : En} {q : Rat} {n d : Int} (hd : 0 < d) (hq : q = Rat.divInt n d) (h : Enq e n d) : EncF e (ofQ q) := by
  intro hf
  have hr := fine_dp hf
  have ok : okR q = true := by rw [← ofQ_fine]; exact hf
  have e1 := toQ_ofQ ok
  unfold toQ at e1
  have e2 := (Rat.divInt_eq_divInt_iff (by omega) (by omega)).1 (e1.trans hq)
  exact h.same hd hr e2.symm
theorem encF_add {a b : En} {f g : Fr} (ha : EncF a f) (hb : EncF b g) : EncF (addE a b) (addR f g) := by
  unfold addR
  cases hf : fineR f
  · exact encF_wrong _
  cases hg : fineR g
  · exact encF_wrong _
  have d1 := fine_dp hf
  have d2 := fine_dp hg
  exact encF_of (Int.mul_pos d1 d2) (by unfold toQ; rw [Rat.divInt_add_divInt _ _ (by omega) (by omega)]) (enq_add d1 d2 (ha hf) (hb hg))
theorem encF_sub {a b : En} {f g : Fr} (ha : EncF a f) (hb : EncF b g) : EncF (subE a b) (subR f g) := by
  unfold subR
  cases hf : fineR f
  · exact encF_wrong _
  cases hg : fineR g
  · exact encF_wrong _
  have d1 := fine_dp hf
  have d2 := fine_dp hg
  exact encF_of (Int.mul_pos d1 d2) (by unfold toQ; rw [Rat.divInt_sub_divInt _ _ (by omega) (by omega)]) (enq_sub d1 d2 (ha hf) (hb hg))
theorem encF_mul {a b : En} {f g : Fr} (ha : EncF a f) (hb : EncF b g) : EncF (mulE a b) (mulR f g) := by
  unfold mulR
  cases hf : fineR f
  · exact encF_wrong _
  cases hg : fineR g
  · exact encF_wrong _
  have d1 := fine_dp hf
  have d2 := fine_dp hg
  exact encF_of (Int.mul_pos d1 d2) (by unfold toQ; rw [Rat.divInt_mul_divInt]) (enq_mul d1 d2 (ha hf) (hb hg))
theorem encF_div {a b : En} {f g : Fr} (ha : EncF a f) (hb : EncF b g) : EncF (divE a b) (divR f g) := by
  cases hf : fineR f
  · unfold divR; rw [hf]; exact encF_wrong _
  cases hg : fineR g
  · unfold divR; rw [hf, hg]; exact encF_wrong _
  by_cases h0 : g.n = 0
  · unfold divR; rw [hf, hg, show decide (g.n ≠ 0) = false by simp [h0]]; exact encF_wrong _
  have d1 := fine_dp hf
  have d2 := fine_dp hg
  rw [divR_fine hf hg h0]
  refine encF_of (Int.mul_pos d1 (szI_pp h0)) ?_ (enq_div d1 d2 (ha hf) (hb hg))
  unfold toQ
  rw [Rat.div_def, Rat.inv_divInt, Rat.divInt_mul_divInt]
  unfold sgI szI
  by_cases hn : g.n < 0
  · rw [if_pos hn, if_pos hn, ← Rat.neg_divInt_neg]
    rw [Int.mul_neg, Int.mul_neg, Int.mul_one, Int.neg_mul]
  · rw [if_neg hn, if_neg hn, Int.mul_one]
theorem encF_root {a : En} {f : Fr} (ha : EncF a f) : EncF (rootE a) (rootR f) := by
  cases hf : fineR f
  · unfold rootR; rw [hf]; exact encF_wrong _
  unfold rootR
  rw [hf, if_pos rfl]
  cases he : eqR (mulR (tryR f) (tryR f)) f
  · rw [if_neg (by simp)]; exact encF_wrong _
  rw [if_pos rfl]
  intro ht
  have e := eqR_iff.1 he
  rw [mulR_fine ht ht] at e
  have ok : okR (toQ (tryR f) * toQ (tryR f)) = true := by rw [← ofQ_fine, e]; exact hf
  have q := toQ_ofQ ok
  rw [e] at q
  unfold toQ at q
  rw [Rat.divInt_mul_divInt] at q
  have d1 := fine_dp hf
  have d2 := fine_dp ht
  have hdd := Int.mul_pos d2 d2
  have e2 := (Rat.divInt_eq_divInt_iff (by omega) (by omega)).1 q
  exact enq_root d1 d2 (flR_le (fineR_iff.1 hf).2.2.2.2.1).1 (ha hf) e2
theorem encF_whole (n : Int) : EncF (wholeN n) (wholeF n) := by
  unfold wholeF newR lowR
  by_cases hg : (gvB n && gvB 1) = true
  · rw [if_pos hg, if_neg (by decide)]
    refine encF_of (d := 1) (by decide) rfl ?_
    unfold wholeN
    cases hb : foB n
    · exact .inl rfl
    · have hw : Wn n := by unfold foB at hb; simp at hb; exact ⟨by omega, by omega⟩
      rw [show foN n = n * 16777216 by unfold foN; rw [hb]; rfl]
      exact enq_pt (fr_it hw) (by omega)
  · rw [if_neg hg]; exact encF_wrong _
/-- Row beside row. -/
def EncL : List En → List Fr → Prop
  | [], [] => True
  | e :: es, f :: fs => EncF e f ∧ EncL es fs
  | _, _ => False
theorem encL_len : ∀ {es : List En} {fs : List Fr}, EncL es fs → es.length = fs.length
  | [], [], _ => rfl
  | _ :: es, _ :: fs, h => by have := encL_len h.2; simp [this]
  | [], _ :: _, h => h.elim
  | _ :: _, [], h => h.elim
theorem encL_get : ∀ {es : List En} {fs : List Fr}, EncL es fs → ∀ (k : Nat) (e : En) (f : Fr), es[k]? = some e → fs[k]? = some f → EncF e f
  | [], _, _, k, e, f, h1, _ => by simp at h1
  | _ :: es, _ :: fs, h, 0, e, f, h1, h2 => by simp at h1 h2; subst h1 h2; exact h.1
  | _ :: es, _ :: fs, h, k + 1, e, f, h1, h2 => encL_get h.2 k e f (by simpa using h1) (by simpa using h2)
  | _ :: _, [], h, _, _, _, _, _ => h.elim
theorem encL_of : ∀ {es : List En} {fs : List Fr}, es.length = fs.length → (∀ (k : Nat) (e : En) (f : Fr), es[k]? = some e → fs[k]? = some f → EncF e f) → EncL es fs
  | [], [], _, _ => trivial
  | e :: es, f :: fs, hl, h => ⟨h 0 e f rfl rfl, encL_of (by simpa using hl) fun k e' f' h1 h2 => h (k + 1) e' f' (by simpa using h1) (by simpa using h2)⟩
  | [], _ :: _, hl, _ => by simp at hl
  | _ :: _, [], hl, _ => by simp at hl
theorem encL_mul : ∀ {us : List En} {fs : List Fr} {bs : List En} {gs : List Fr}, EncL us fs → EncL bs gs → EncL (List.zipWith mulE us bs) (List.zipWith mulR fs gs)
  | [], [], _, _, _, _ => trivial
  | _ :: _, _ :: _, [], [], _, _ => trivial
  | _ :: us, _ :: fs, _ :: bs, _ :: gs, h, k => ⟨encF_mul h.1 k.1, encL_mul h.2 k.2⟩
  | [], _ :: _, _, _, h, _ => h.elim
  | _ :: _, [], _, _, h, _ => h.elim
  | _ :: _, _ :: _, [], _ :: _, _, k => k.elim
  | _ :: _, _ :: _, _ :: _, [], _, k => k.elim
theorem encF_fold : ∀ {es : List En} {fs : List Fr} {e : En} {f : Fr}, EncL es fs → EncF e f → EncF (es.foldl addE e) (fs.foldl addR f)
  | [], [], _, _, _, h => h
  | _ :: es, _ :: fs, _, _, hl, h => by simp only [List.foldl_cons]; exact encF_fold hl.2 (encF_add h hl.1)
  | [], _ :: _, _, _, h, _ => h.elim
  | _ :: _, [], _, _, h, _ => h.elim
theorem encF_sum {es : List En} {fs : List Fr} (h : EncL es fs) : EncF (sumN es) (sumF fs) := encF_fold h (encF_whole 0)
theorem encF_dot {us : List En} {fs : List Fr} {bs : List En} {gs : List Fr} (h : EncL us fs) (k : EncL bs gs) : EncF (dotN us bs) (dotF fs gs) := encF_sum (encL_mul h k)
theorem encL_take {es : List En} {fs : List Fr} (h : EncL es fs) (m : Nat) : EncL (es.take m) (fs.take m) := by
  refine encL_of (by rw [List.length_take, List.length_take, encL_len h]) fun k e f h1 h2 => ?_
  rw [List.getElem?_take] at h1 h2
  split at h1
  · rename_i hk
    rw [if_pos hk] at h2
    exact encL_get h k e f h1 h2
  · cases h1
/-- What env.Encloses asks, of a fraction. -/
theorem EncF.told {e : En} {f : Fr} (h : EncF e f) (hf : fineR f = true) (hb : e ≠ wrongE) : fineB e = true ∧ e.l * f.d ≤ f.n * 16777216 ∧ f.n * 16777216 ≤ e.h * f.d := by
  rcases h hf with h | ⟨h1, h2⟩
  · exact absurd h hb
  · exact ⟨h1, h2.1, h2.2⟩
end Go.Proofs.YtljmggemdkfbiaaGreat

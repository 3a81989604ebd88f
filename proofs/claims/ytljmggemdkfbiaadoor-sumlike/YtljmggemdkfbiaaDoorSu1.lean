/- Layer 11 (sum): the program's and the document's sums of bytes. -/
import Derived.Test.YtljmggemdkfbiaaDoorSuM
import Derived.Test.YtljmggemdkfbiaaDoorByt
import Derived.Test.YtljmggemdkfbiaaDoorTimes
import Derived.Lib.LaidTab
import Derived.Lib.SmallJoins
namespace Go.Proofs.YtljmggemdkfbiaaDoor
open Go.RowKit
set_option linter.unusedSimpArgs false
set_option linter.unusedVariables false

/-- The table of half bytes, as numbers. -/
def tabZ : List Int := tabC.map fun (n : Nat) => (n : Int)
def HalfTab (w : World) : Prop := Lib.TabIs Tryd.prog w "couplet/sum.halves" .u32 tabZ
theorem HalfTab.cell {w : World} (h : HalfTab w) {i : Nat} (hi : i < 16) : w.cell? ⟨0, i, none⟩ = some (.int .u32 ((tabC.getD i 0 : Nat) : Int)) := by
  have := Lib.TabIs.cell h (g := 0) (by kernel_rfl) i (by simpa [tabZ, tabC] using hi)
  rw [this]
  have : ∀ i : Fin 16, tabZ.getD i 0 = ((tabC.getD i 0 : Nat) : Int) := by decide
  have h2 := this ⟨i, hi⟩
  simpa [List.getD] using h2
theorem HalfTab.later {w w' : World} (h : HalfTab w) (b : Bl w w') : HalfTab w' :=
  Go.Joins.tab_stays (g := 0) (by kernel_rfl) h b (Nat.le_refl _)
theorem and15 (n : Nat) (hn : n < 4294967296) : bits .and .u32 (n : Int) 15 = ((n % 16 : Nat) : Int) := by
  rw [show (15 : Int) = ((15 : Nat) : Int) from rfl, u32_and_nat n 15 hn (by omega)]
  rw [show (15 : Nat) = 2 ^ 4 - 1 from rfl, Nat.and_two_pow_sub_one_eq_mod]
theorem tabC_lt (i : Nat) : tabC.getD i 0 < 4294967296 := by
  by_cases h : i < 16
  · have : ∀ i : Fin 16, tabC.getD i 0 < 4294967296 := by decide
    exact this ⟨i, h⟩
  · rw [List.getD_eq_getElem?_getD, List.getElem?_eq_none (by simp [tabC]; omega)]
    decide
set_option maxRecDepth 100000 in
theorem half_any (n : Nat) (hn : n < 4294967296) (w : World) (ht : HalfTab w) :
    Calls Tryd.prog 12 #[.int .u32 n] w fun e w' => e = .returned (.int .u32 (halfC n : Nat)) ∧ w' = w := by
  have e1 := and15 n hn
  have c1 := ht.cell (i := n % 16) (Nat.mod_lt _ (by omega))
  have lt := tabC_lt (n % 16)
  have e2 := u32_xor_nat (n / 16) (tabC.getD (n % 16) 0) (by omega) lt
  have HR := hideP (show halfC n = n / 16 ^^^ tabC.getD (n % 16) 0 from rfl)
  have hm : n % 16 < 16 := Nat.mod_lt _ (by omega)
  generalize tabC.getD (n % 16) 0 = T at *
  generalize hN : n % 16 = m at *
  go_enter Tryd.func12, Tryd.ntmps12
  go_wp2_with fail
  go_ret
  have e3 : (n : Int) / 16 = ((n / 16 : Nat) : Int) := by omega
  rw [e3, e2, ← HR.out]
  exact ⟨rfl, rfl⟩
theorem halfC_lt {n : Nat} (h : n < 4294967296) : halfC n < 4294967296 := by rw [halfC_bits]; exact bitsC_lt 4 h
theorem byteC_half (n x : Nat) : halfC (halfC (n ^^^ x)) = byteC n x := by
  rw [halfC_bits, halfC_bits, ← bitsC_add]
  rfl
theorem sumFrom_snoc {n : Nat} {xs : List Nat} {k x : Nat} (h : xs[k]? = some x) : sumFrom n (xs.take (k + 1)) = byteC (sumFrom n (xs.take k)) x := by
  rw [List.take_add_one, h]
  simp [sumFrom]
theorem wrap_byte32 {x : Nat} (h : x < 256) : IntKind.u32.wrap (x : Int) = (x : Int) := by rw [IntKind.wrap_u32']; omega
/-- A byte of a row. -/
theorem byteAt {w wr : World} {b o : Nat} {xs : List Nat} (HX : ∀ j x, xs[j]? = some x → ∀ k u, (cB x)[k]? = some u → w.cell? ⟨b, o + j * 1 + k, none⟩ = some u) {k x : Nat} (hx : xs[k]? = some x) : w.cell? ⟨b, o + k, none⟩ = some (.int .u8 x) := by
  have := HX k x hx 0 _ rfl
  simpa using this
set_option maxRecDepth 100000 in
set_option maxHeartbeats 1000000 in
theorem update_any (v : Value) (xs : List Nat) (n : Nat) (w : World) (h : Rq 1 cB w v xs) (hx : ∀ x ∈ xs, x < 256) (hl : xs.length ≤ 1000000) (hn : n < 4294967296) (ht : HalfTab w) :
    Calls Tryd.prog 11 #[.int .u32 n, v] w fun e w' => e = .returned (.int .u32 (sumFrom (n ^^^ 4294967295) xs ^^^ 4294967295 : Nat)) ∧ w' = w := by
  have e0 : bits .xor .u32 IntKind.u32.max (n : Int) = ((n ^^^ 4294967295 : Nat) : Int) := by
    rw [Nat.xor_comm]
    exact u32_xor_nat 4294967295 n (by omega) hn
  have hm : n ^^^ 4294967295 < 4294967296 := xor_lt32 hn (by omega)
  generalize n ^^^ 4294967295 = m at *
  have HR := hideP (fun (c : Nat) (hc : c < 4294967296) => (show bits .xor .u32 IntKind.u32.max (c : Int) = ((c ^^^ 4294967295 : Nat) : Int) by
    rw [Nat.xor_comm]
    exact u32_xor_nat 4294967295 c (by omega) hc))
  rcases h with ⟨p, cap, rfl, rfl, hpn⟩ | ⟨b, o, cap, rfl, hc, hb, hX⟩
  · have e9 := HR.out m hm
    rw [show sumFrom m [] = m from rfl]
    generalize m ^^^ 4294967295 = r at *
    go_enter Tryd.func11, Tryd.ntmps11
    go_wp2_with fail
    go_loopw [0, 11] (fun c i wr => c = .int .u32 m ∧ i = .int .i64 0 ∧ wr = w) (fun _ _ _ => 0)
    case atStart => exact ⟨rfl, rfl, rfl⟩
    case round =>
      obtain ⟨rfl, rfl, rfl⟩ := hrel
      go_wp2
      go_ret
      exact ⟨rfl, rfl⟩
  · have HX := hideP hX
    have HL := hideP hx
    have HM := hideP hm
    clear hX hx hm
    go_enter Tryd.func11, Tryd.ntmps11
    go_wp2_with fail
    go_loopw [0, 11] (fun c i wr => ∃ k : Nat, c = .int .u32 (sumFrom m (xs.take k) : Nat) ∧ i = .int .i64 k ∧ k ≤ xs.length ∧ wr = w) (fun _ i _ => xs.length - (intOf i).toNat)
    case atStart => exact ⟨0, rfl, rfl, Nat.zero_le _, rfl⟩
    case round =>
      obtain ⟨k, rfl, rfl, hk, rfl⟩ := hrel
      have hs : sumFrom m (xs.take k) < 4294967296 := sumFrom_lt HM.out (fun y hy => HL.out y (List.mem_of_mem_take hy))
      by_cases hlt : k < xs.length
      · obtain ⟨x, hx⟩ : ∃ x, xs[k]? = some x := ⟨_, List.getElem?_eq_getElem hlt⟩
        have cx := byteAt HX.out hx (wr := wr)
        have hx8 : x < 256 := HL.out x (List.mem_of_getElem? hx)
        have HS := hideP (sumFrom_snoc (n := m) hx)
        have e1 := wrap_byte32 hx8
        generalize sumFrom m (xs.take k) = c at *
        have e2 := u32_xor_nat c x hs (by omega)
        have h1 := xor_lt32 hs (show x < 4294967296 by omega)
        have HB := hideP (byteC_half c x)
        generalize c ^^^ x = d at *
        have h2 := halfC_lt h1
        clear hx
        go_wp2_with fail
        refine (half_any d h1 _ ht).mono ?_
        rintro e w1 ⟨rfl, rfl⟩
        go_wp2_with fail
        refine (half_any _ h2 _ ht).mono ?_
        rintro e w1 ⟨rfl, rfl⟩
        rw [HB.out]
        go_wp2
        go_roundw
        case rel => exact ⟨k + 1, by rw [HS.out], by simp, hlt, trivial⟩
        case measure => simp [intOf]; omega
      · have hk' : k = xs.length := by omega
        subst hk'
        rw [List.take_length] at hs ⊢
        have e9 := HR.out _ hs
        generalize hC : sumFrom m xs = c at *
        go_wp2
        go_ret
        rw [hC]
        exact ⟨rfl, rfl⟩
set_option maxRecDepth 100000 in
theorem of_any (v : Value) (xs : List Nat) (w : World) (h : Rq 1 cB w v xs) (hx : ∀ x ∈ xs, x < 256) (hl : xs.length ≤ 1000000) (ht : HalfTab w) :
    Calls Tryd.prog 9 #[v] w fun e w' => e = .returned (.int .u32 (sumOf xs : Nat)) ∧ w' = w := by
  have U := hideP (update_any v xs 0 w h hx hl (by omega) ht)
  rw [show sumFrom (0 ^^^ 4294967295) xs ^^^ 4294967295 = sumOf xs from rfl] at U
  go_enter Tryd.func9, Tryd.ntmps9
  go_wp2_with fail
  refine U.out.mono ?_
  rintro e w1 ⟨rfl, rfl⟩
  go_wp2
  go_ret
  exact ⟨rfl, rfl⟩
theorem bitsC_snoc (k n : Nat) : bitsC (k + 1) n = bitC (bitsC k n) := bitsC_add k 1 n
set_option maxRecDepth 100000 in
set_option maxHeartbeats 1000000 in
theorem refOf_any (v : Value) (xs : List Nat) (w : World) (h : Rq 1 cB w v xs) (hx : ∀ x ∈ xs, x < 256) (hl : xs.length ≤ 1000000) :
    Calls Tryd.prog 10 #[v] w fun e w' => e = .returned (.int .u32 (sumOf xs : Nat)) ∧ w' = w := by
  have HR := hideP (fun (c : Nat) (hc : c < 4294967296) => u32_xor_nat c 4294967295 hc (by omega))
  rcases h with ⟨p, cap, rfl, rfl, hpn⟩ | ⟨b, o, cap, rfl, hc, hb, hX⟩
  · go_enter Tryd.func10, Tryd.ntmps10
    go_wp2_with fail
    go_loopw [3, 4] (fun c i wr => c = .int .u32 4294967295 ∧ i = .int .i64 0 ∧ wr = w) (fun _ _ _ => 0)
    case atStart => exact ⟨rfl, rfl, rfl⟩
    case round =>
      obtain ⟨rfl, rfl, rfl⟩ := hrel
      go_wp2
      go_ret
      exact ⟨rfl, rfl⟩
  · have HX := hideP hX
    have HL := hideP hx
    clear hX hx
    go_enter Tryd.func10, Tryd.ntmps10
    go_wp2_with fail
    go_loopw [3, 4] (fun c i wr => ∃ k : Nat, c = .int .u32 (sumFrom 4294967295 (xs.take k) : Nat) ∧ i = .int .i64 k ∧ k ≤ xs.length ∧ wr = w) (fun _ i _ => xs.length - (intOf i).toNat)
    case atStart => exact ⟨0, rfl, rfl, Nat.zero_le _, rfl⟩
    case round =>
      obtain ⟨k, rfl, rfl, hk, rfl⟩ := hrel
      have hs : sumFrom 4294967295 (xs.take k) < 4294967296 := sumFrom_lt (by omega) (fun y hy => HL.out y (List.mem_of_mem_take hy))
      by_cases hlt : k < xs.length
      · obtain ⟨x, hx⟩ : ∃ x, xs[k]? = some x := ⟨_, List.getElem?_eq_getElem hlt⟩
        have cx := byteAt HX.out hx (wr := wr)
        have hx8 : x < 256 := HL.out x (List.mem_of_getElem? hx)
        have HS := hideP (sumFrom_snoc (n := 4294967295) hx)
        have e1 := wrap_byte32 hx8
        generalize sumFrom 4294967295 (xs.take k) = c at *
        have e2 := u32_xor_nat c x hs (by omega)
        have h1 := xor_lt32 hs (show x < 4294967296 by omega)
        have HB := hideP (show bitsC 8 (c ^^^ x) = byteC c x from rfl)
        generalize c ^^^ x = d at *
        clear hx
        go_wp2_with fail
        go_loopw [3, 5] (fun c i wr' => ∃ j : Nat, c = .int .u32 (bitsC j d : Nat) ∧ i = .int .i64 j ∧ j ≤ 8 ∧ wr' = wr) (fun _ i _ => 8 - (intOf i).toNat)
        case atStart => exact ⟨0, rfl, rfl, Nat.zero_le _, rfl⟩
        case round =>
          obtain ⟨j, rfl, rfl, hj, rfl⟩ := hrel
          by_cases hj8 : j < 8
          · have hd := bitsC_lt j h1
            have HJ := hideP (bitsC_snoc j d)
            generalize bitsC j d = g at *
            have hq : IntKind.u32.wrap ((g : Int).tdiv 2) = ((g / 2 : Nat) : Int) := by
              rw [Int.tdiv_eq_ediv_of_nonneg (by omega), IntKind.wrap_u32']
              omega
            have HG2 := hideP (show (g : Int) / 2 = ((g / 2 : Nat) : Int) by omega)
            have HX2 := hideP (show bits .xor .u32 ((g / 2 : Nat) : Int) 3988292384 = ((g / 2 ^^^ 3988292384 : Nat) : Int) from u32_xor_nat (g / 2) 3988292384 (by omega) (by omega))
            by_cases h2 : g % 2 = 1
            · have h2' : (g : Int) % 2 = 1 := by omega
              have HG := hideP (show bitC g = g / 2 ^^^ 3988292384 from if_pos h2)
              go_wp2
              go_roundw
              case rel => exact ⟨j + 1, by rw [HJ.out, HG.out, HG2.out, HX2.out], by simp, hj8, trivial⟩
              case measure => simp [intOf]; omega
            · have h2' : (g : Int) % 2 = 0 := by omega
              have HG := hideP (show bitC g = g / 2 from if_neg h2)
              go_wp2
              go_roundw
              case rel => exact ⟨j + 1, by rw [HJ.out, HG.out, HG2.out], by simp, hj8, trivial⟩
              case measure => simp [intOf]; omega
          · obtain rfl : j = 8 := by omega
            rw [HB.out]
            go_wp2_with fail
            go_roundw
            case rel => exact ⟨k + 1, by rw [HS.out], by simp, hlt, trivial⟩
            case measure => simp [intOf]; omega
      · have hk' : k = xs.length := by omega
        subst hk'
        rw [List.take_length] at hs ⊢
        have e9 := HR.out _ hs
        have HO := hideP (show sumOf xs = sumFrom 4294967295 xs ^^^ 4294967295 from rfl)
        generalize sumFrom 4294967295 xs = c at *
        go_wp2
        go_ret
        rw [HO.out]
        first | exact ⟨rfl, rfl⟩ | (rw [← e9]; exact ⟨rfl, rfl⟩)
end Go.Proofs.YtljmggemdkfbiaaDoor

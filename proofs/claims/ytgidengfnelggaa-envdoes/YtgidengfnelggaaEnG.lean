/- The walk of EnvDoes. -/
import Derived.Test.YtgidengfnelggaaEnR
import Derived.Test.YtgidengfnelggaaEnF
import Derived.Test.YtgidengfnelggaaEnG0
import Derived.Deep.DeepCutAuto
namespace Go.Proofs.Ytgidengfnelggaa
open Go.RowKit
set_option linter.unusedSimpArgs false
set_option linter.unusedVariables false

set_option maxHeartbeats 2000000 in
set_option maxRecDepth 1000000 in
theorem walk_EnvDoes (a b : En) (w : World) :
    Calls Try.prog 3 #[enV a, enV b] w fun e w' => e = .returned (.bool true) ∧ Bl w w' := by
  obtain ⟨W, X⟩ := ab_ex w a b
  have KP := hideP (show ∀ w', Bl W w' → (w'.cell? ⟨w.heap.size, 0, none⟩ = some (.int .i64 a.v) ∧ w'.cell? ⟨w.heap.size, 1, none⟩ = some (.int .i64 a.l) ∧ w'.cell? ⟨w.heap.size, 2, none⟩ = some (.int .i64 a.h) ∧ w'.cell? ⟨w.heap.size, 3, none⟩ = some (.bool a.bad) ∧ w'.cell? ⟨w.heap.size + 1, 0, none⟩ = some (.int .i64 b.v) ∧ w'.cell? ⟨w.heap.size + 1, 1, none⟩ = some (.int .i64 b.l) ∧ w'.cell? ⟨w.heap.size + 1, 2, none⟩ = some (.int .i64 b.h) ∧ w'.cell? ⟨w.heap.size + 1, 3, none⟩ = some (.bool b.bad) ∧ Bl W w') from fun w' h => ⟨(X.ba.later h).c0, (X.ba.later h).c1, (X.ba.later h).c2, (X.ba.later h).c3, (X.bb.later h).c0, (X.bb.later h).c1, (X.bb.later h).c2, (X.bb.later h).c3, h⟩)
  have HX := hideP X
  clear X
  have T0 := hideP (eadd_any a b)
  have T1 := hideP (esub_any a b)
  have T2 := hideP (emul_any a b)
  have T3 := hideP (ediv_any a b)
  have T4 := hideP (eroot_any a)
  have D0 := hideP (do0 a b)
  have D1 := hideP (do1 a b)
  have D2 := hideP (do2 a b)
  have D3 := hideP (do3 a b)
  have D4 := hideP (do4 a)
  generalize addE a b = r0 at *
  generalize subE a b = r1 at *
  generalize mulE a b = r2 at *
  generalize divE a b = r3 at *
  generalize rootE a = r4 at *
  go_enter Try.func3, Try.ntmps3
  go_upto_region 1 with fail
  rw [← HX.out.eq]
  go_cut [5] (fun p wx => ∃ blk, p = .pointer (some ⟨blk, 0, none⟩) ∧ Bl W wx ∧ wx.rangeAt blk 0 [.int .i64 r0.v, .int .i64 r0.l, .int .i64 r0.h, .bool r0.bad, .int .i64 r1.v, .int .i64 r1.l, .int .i64 r1.h, .bool r1.bad, .int .i64 r2.v, .int .i64 r2.l, .int .i64 r2.h, .bool r2.bad, .int .i64 r3.v, .int .i64 r3.l, .int .i64 r3.h, .bool r3.bad, .int .i64 r4.v, .int .i64 r4.l, .int .i64 r4.h, .bool r4.bad])
  case first =>
    refine wp_region_noPanic ?_
    refine wp_region_held_drew (S := fun w' => w'.cell? ⟨w.heap.size, 0, none⟩ = some (.int .i64 a.v) ∧ w'.cell? ⟨w.heap.size, 1, none⟩ = some (.int .i64 a.l) ∧ w'.cell? ⟨w.heap.size, 2, none⟩ = some (.int .i64 a.h) ∧ w'.cell? ⟨w.heap.size, 3, none⟩ = some (.bool a.bad) ∧ w'.cell? ⟨w.heap.size + 1, 0, none⟩ = some (.int .i64 b.v) ∧ w'.cell? ⟨w.heap.size + 1, 1, none⟩ = some (.int .i64 b.l) ∧ w'.cell? ⟨w.heap.size + 1, 2, none⟩ = some (.int .i64 b.h) ∧ w'.cell? ⟨w.heap.size + 1, 3, none⟩ = some (.bool b.bad) ∧ Bl W w') (by kernel_rfl) (KP.out _ ((Bl.refl _).drew)) (fun hS => ?_)
    have hB : Bl W W.drew := (Bl.refl _).drew
    generalize W.drew = W1 at *
    refine wpAnyH_take (i := 0) (oi := _) (v := (Value.agg #[.int .i64 a.v, .int .i64 a.l, .int .i64 a.h, .bool a.bad])) rfl (by kernel_rfl) (by kernel_rfl) (by kernel_rfl) (fun _ _ _ h => h) (Or.inl ⟨by rfl, ?_⟩) hS ?_
    · intro u hSu
      try dsimp only at hSu
      obtain ⟨s0, s1, s2, s3, s4, s5, s6, s7, s8⟩ := hSu
      go_simp
    try simp only [Act.put, List.getElem_toArray, List.getElem_cons_zero, List.getElem_cons_succ, List.setIfInBounds_toArray, List.set_cons_zero, List.set_cons_succ]
    refine wpAnyH_take (i := 1) (oi := _) (v := (Value.agg #[.int .i64 b.v, .int .i64 b.l, .int .i64 b.h, .bool b.bad])) rfl (by kernel_rfl) (by kernel_rfl) (by kernel_rfl) (fun _ _ _ h => h) (Or.inl ⟨by rfl, ?_⟩) hS ?_
    · intro u hSu
      try dsimp only at hSu
      obtain ⟨s0, s1, s2, s3, s4, s5, s6, s7, s8⟩ := hSu
      go_simp
    try simp only [Act.put, List.getElem_toArray, List.getElem_cons_zero, List.getElem_cons_succ, List.setIfInBounds_toArray, List.set_cons_zero, List.set_cons_succ]
    refine wpAnyH_take (i := 3) (oi := _) (v := (Value.agg #[.int .i64 a.v, .int .i64 a.l, .int .i64 a.h, .bool a.bad])) rfl (by kernel_rfl) (by kernel_rfl) (by kernel_rfl) (fun _ _ _ h => h) (Or.inl ⟨by rfl, ?_⟩) hS ?_
    · intro u hSu
      try dsimp only at hSu
      obtain ⟨s0, s1, s2, s3, s4, s5, s6, s7, s8⟩ := hSu
      go_simp
    try simp only [Act.put, List.getElem_toArray, List.getElem_cons_zero, List.getElem_cons_succ, List.setIfInBounds_toArray, List.set_cons_zero, List.set_cons_succ]
    refine wpAnyH_take (i := 4) (oi := _) (v := (Value.agg #[.int .i64 b.v, .int .i64 b.l, .int .i64 b.h, .bool b.bad])) rfl (by kernel_rfl) (by kernel_rfl) (by kernel_rfl) (fun _ _ _ h => h) (Or.inl ⟨by rfl, ?_⟩) hS ?_
    · intro u hSu
      try dsimp only at hSu
      obtain ⟨s0, s1, s2, s3, s4, s5, s6, s7, s8⟩ := hSu
      go_simp
    try simp only [Act.put, List.getElem_toArray, List.getElem_cons_zero, List.getElem_cons_succ, List.setIfInBounds_toArray, List.set_cons_zero, List.set_cons_succ]
    refine wpAnyH_take (i := 6) (oi := _) (v := (Value.agg #[.int .i64 a.v, .int .i64 a.l, .int .i64 a.h, .bool a.bad])) rfl (by kernel_rfl) (by kernel_rfl) (by kernel_rfl) (fun _ _ _ h => h) (Or.inl ⟨by rfl, ?_⟩) hS ?_
    · intro u hSu
      try dsimp only at hSu
      obtain ⟨s0, s1, s2, s3, s4, s5, s6, s7, s8⟩ := hSu
      go_simp
    try simp only [Act.put, List.getElem_toArray, List.getElem_cons_zero, List.getElem_cons_succ, List.setIfInBounds_toArray, List.set_cons_zero, List.set_cons_succ]
    refine wpAnyH_take (i := 7) (oi := _) (v := (Value.agg #[.int .i64 b.v, .int .i64 b.l, .int .i64 b.h, .bool b.bad])) rfl (by kernel_rfl) (by kernel_rfl) (by kernel_rfl) (fun _ _ _ h => h) (Or.inl ⟨by rfl, ?_⟩) hS ?_
    · intro u hSu
      try dsimp only at hSu
      obtain ⟨s0, s1, s2, s3, s4, s5, s6, s7, s8⟩ := hSu
      go_simp
    try simp only [Act.put, List.getElem_toArray, List.getElem_cons_zero, List.getElem_cons_succ, List.setIfInBounds_toArray, List.set_cons_zero, List.set_cons_succ]
    refine wpAnyH_take (i := 9) (oi := _) (v := (Value.agg #[.int .i64 a.v, .int .i64 a.l, .int .i64 a.h, .bool a.bad])) rfl (by kernel_rfl) (by kernel_rfl) (by kernel_rfl) (fun _ _ _ h => h) (Or.inl ⟨by rfl, ?_⟩) hS ?_
    · intro u hSu
      try dsimp only at hSu
      obtain ⟨s0, s1, s2, s3, s4, s5, s6, s7, s8⟩ := hSu
      go_simp
    try simp only [Act.put, List.getElem_toArray, List.getElem_cons_zero, List.getElem_cons_succ, List.setIfInBounds_toArray, List.set_cons_zero, List.set_cons_succ]
    refine wpAnyH_take (i := 10) (oi := _) (v := (Value.agg #[.int .i64 b.v, .int .i64 b.l, .int .i64 b.h, .bool b.bad])) rfl (by kernel_rfl) (by kernel_rfl) (by kernel_rfl) (fun _ _ _ h => h) (Or.inl ⟨by rfl, ?_⟩) hS ?_
    · intro u hSu
      try dsimp only at hSu
      obtain ⟨s0, s1, s2, s3, s4, s5, s6, s7, s8⟩ := hSu
      go_simp
    try simp only [Act.put, List.getElem_toArray, List.getElem_cons_zero, List.getElem_cons_succ, List.setIfInBounds_toArray, List.set_cons_zero, List.set_cons_succ]
    refine wpAnyH_take (i := 12) (oi := _) (v := (Value.agg #[.int .i64 a.v, .int .i64 a.l, .int .i64 a.h, .bool a.bad])) rfl (by kernel_rfl) (by kernel_rfl) (by kernel_rfl) (fun _ _ _ h => h) (Or.inl ⟨by rfl, ?_⟩) hS ?_
    · intro u hSu
      try dsimp only at hSu
      obtain ⟨s0, s1, s2, s3, s4, s5, s6, s7, s8⟩ := hSu
      go_simp
    try simp only [Act.put, List.getElem_toArray, List.getElem_cons_zero, List.getElem_cons_succ, List.setIfInBounds_toArray, List.set_cons_zero, List.set_cons_succ]
    refine wpAnyH_ready (rs := [2, 15]) (by kernel_rfl) (by simp) ?_
    refine AllReadyH.cons (i := 2) (o := _) rfl (fun K hK => ?_) ?_
    · skip
      try simp only [List.getElem_toArray, List.getElem_cons_zero, List.getElem_cons_succ]
      go_simp
      refine (T0.out _).mono ?_
      rintro e w1 ⟨rfl, hb⟩
      go_wp2_with fail
      have hB := hB.trans hb
      refine hK.out _ _ (KP.out _ hB) (fun hS => ?_)
      clear hK K hb
      try simp only [Act.put, List.getElem_toArray, List.getElem_cons_zero, List.getElem_cons_succ, List.setIfInBounds_toArray, List.set_cons_zero, List.set_cons_succ]
      refine wpAnyH_ready (rs := [5, 15]) (by kernel_rfl) (by simp) ?_
      refine AllReadyH.cons (i := 5) (o := _) rfl (fun K hK => ?_) ?_
      · skip
        try simp only [List.getElem_toArray, List.getElem_cons_zero, List.getElem_cons_succ]
        go_simp
        refine (T1.out _).mono ?_
        rintro e w2 ⟨rfl, hb⟩
        go_wp2_with fail
        have hB := hB.trans hb
        refine hK.out _ _ (KP.out _ hB) (fun hS => ?_)
        clear hK K hb
        try simp only [Act.put, List.getElem_toArray, List.getElem_cons_zero, List.getElem_cons_succ, List.setIfInBounds_toArray, List.set_cons_zero, List.set_cons_succ]
        refine wpAnyH_ready (rs := [8, 15]) (by kernel_rfl) (by simp) ?_
        refine AllReadyH.cons (i := 8) (o := _) rfl (fun K hK => ?_) ?_
        · skip
          try simp only [List.getElem_toArray, List.getElem_cons_zero, List.getElem_cons_succ]
          go_simp
          refine (T2.out _).mono ?_
          rintro e w3 ⟨rfl, hb⟩
          go_wp2_with fail
          have hB := hB.trans hb
          refine hK.out _ _ (KP.out _ hB) (fun hS => ?_)
          clear hK K hb
          try simp only [Act.put, List.getElem_toArray, List.getElem_cons_zero, List.getElem_cons_succ, List.setIfInBounds_toArray, List.set_cons_zero, List.set_cons_succ]
          refine wpAnyH_ready (rs := [11, 15]) (by kernel_rfl) (by simp) ?_
          refine AllReadyH.cons (i := 11) (o := _) rfl (fun K hK => ?_) ?_
          · skip
            try simp only [List.getElem_toArray, List.getElem_cons_zero, List.getElem_cons_succ]
            go_simp
            refine (T3.out _).mono ?_
            rintro e w4 ⟨rfl, hb⟩
            go_wp2_with fail
            have hB := hB.trans hb
            refine hK.out _ _ (KP.out _ hB) (fun hS => ?_)
            clear hK K hb
            try simp only [Act.put, List.getElem_toArray, List.getElem_cons_zero, List.getElem_cons_succ, List.setIfInBounds_toArray, List.set_cons_zero, List.set_cons_succ]
            refine wpAnyH_ready (rs := [13, 15]) (by kernel_rfl) (by simp) ?_
            refine AllReadyH.cons (i := 13) (o := _) rfl (fun K hK => ?_) ?_
            · skip
              try simp only [List.getElem_toArray, List.getElem_cons_zero, List.getElem_cons_succ]
              go_simp
              refine (T4.out _).mono ?_
              rintro e w5 ⟨rfl, hb⟩
              go_wp2_with fail
              have hB := hB.trans hb
              refine hK.out _ _ (KP.out _ hB) (fun hS => ?_)
              clear hK K hb
              try simp only [Act.put, List.getElem_toArray, List.getElem_cons_zero, List.getElem_cons_succ, List.setIfInBounds_toArray, List.set_cons_zero, List.set_cons_succ]
              refine wpAnyH_take (i := 14) (oi := _) (v := (Value.agg (List.toArray [.int .i64 r0.v, .int .i64 r0.l, .int .i64 r0.h, .bool r0.bad, .int .i64 r1.v, .int .i64 r1.l, .int .i64 r1.h, .bool r1.bad, .int .i64 r2.v, .int .i64 r2.l, .int .i64 r2.h, .bool r2.bad, .int .i64 r3.v, .int .i64 r3.l, .int .i64 r3.h, .bool r3.bad, .int .i64 r4.v, .int .i64 r4.l, .int .i64 r4.h, .bool r4.bad]))) rfl (by kernel_rfl) (by kernel_rfl) (by kernel_rfl) (fun _ _ _ h => h) (Or.inl ⟨by rfl, ?_⟩) hS ?_
              · intro u hSu
                try dsimp only at hSu
                obtain ⟨s0, s1, s2, s3, s4, s5, s6, s7, s8⟩ := hSu
                go_simp
              try simp only [Act.put, List.getElem_toArray, List.getElem_cons_zero, List.getElem_cons_succ, List.setIfInBounds_toArray, List.set_cons_zero, List.set_cons_succ]
              refine wpAnyH_ready (rs := [15]) (by kernel_rfl) (by simp) ?_
              refine AllReadyH.cons (i := 15) (o := _) rfl (fun K hK => ?_) AllReadyH.nil
              try simp only [List.getElem_toArray, List.getElem_cons_zero, List.getElem_cons_succ]
              go_simp
              have A := Arr.alloc w5
              have hle := Below.size hB
              have hB := hB.alloc (.cells #[.int .i64 0, .int .i64 0, .int .i64 0, .bool false, .int .i64 0, .int .i64 0, .int .i64 0, .bool false, .int .i64 0, .int .i64 0, .int .i64 0, .bool false, .int .i64 0, .int .i64 0, .int .i64 0, .bool false, .int .i64 0, .int .i64 0, .int .i64 0, .bool false] 26)
              refine hK.out _ _ (KP.out _ hB) (fun hS => ?_)
              clear hK K
              try simp only [Act.put, List.getElem_toArray, List.getElem_cons_zero, List.getElem_cons_succ, List.setIfInBounds_toArray, List.set_cons_zero, List.set_cons_succ]
              refine wpAnyH_ready (rs := [16]) (by kernel_rfl) (by simp) ?_
              refine AllReadyH.cons (i := 16) (o := _) rfl (fun K hK => ?_) AllReadyH.nil
              try simp only [List.getElem_toArray, List.getElem_cons_zero, List.getElem_cons_succ]
              rw [if_pos (by rfl)]
              refine wp_store_mid 26 _ _ rfl _ 0 (List.toArray [.int .i64 r0.v, .int .i64 r0.l, .int .i64 r0.h, .bool r0.bad, .int .i64 r1.v, .int .i64 r1.l, .int .i64 r1.h, .bool r1.bad, .int .i64 r2.v, .int .i64 r2.l, .int .i64 r2.h, .bool r2.bad, .int .i64 r3.v, .int .i64 r3.l, .int .i64 r3.h, .bool r3.bad, .int .i64 r4.v, .int .i64 r4.l, .int .i64 r4.h, .bool r4.bad]) rfl rfl A.there (by kernel_rfl) (by kernel_rfl) ?_
              refine hK.out _ _ (KP.out _ (bl_setCells hB hle _ _)) (fun hS => ?_)
              clear hK K
              refine wpAnyH_done (by kernel_rfl) ?_ _
              refine NoPanic.normal ?_
              try dsimp only [Act.put]
              go_wp2
              go_meet
              exact ⟨_, rfl, bl_setCells hB hle _ _, World.rangeAt_setCells_same _ _ 0 [.int .i64 r0.v, .int .i64 r0.l, .int .i64 r0.h, .bool r0.bad, .int .i64 r1.v, .int .i64 r1.l, .int .i64 r1.h, .bool r1.bad, .int .i64 r2.v, .int .i64 r2.l, .int .i64 r2.h, .bool r2.bad, .int .i64 r3.v, .int .i64 r3.l, .int .i64 r3.h, .bool r3.bad, .int .i64 r4.v, .int .i64 r4.l, .int .i64 r4.h, .bool r4.bad] A.there⟩
            · skip
              refine AllReadyH.cons (i := 15) (o := _) rfl (fun K hK => ?_) AllReadyH.nil
              try simp only [List.getElem_toArray, List.getElem_cons_zero, List.getElem_cons_succ]
              go_simp
              have A := Arr.alloc w4
              have hle := Below.size hB
              have hB := hB.alloc (.cells #[.int .i64 0, .int .i64 0, .int .i64 0, .bool false, .int .i64 0, .int .i64 0, .int .i64 0, .bool false, .int .i64 0, .int .i64 0, .int .i64 0, .bool false, .int .i64 0, .int .i64 0, .int .i64 0, .bool false, .int .i64 0, .int .i64 0, .int .i64 0, .bool false] 26)
              refine hK.out _ _ (KP.out _ hB) (fun hS => ?_)
              clear hK K
              try simp only [Act.put, List.getElem_toArray, List.getElem_cons_zero, List.getElem_cons_succ, List.setIfInBounds_toArray, List.set_cons_zero, List.set_cons_succ]
              refine wpAnyH_ready (rs := [13]) (by kernel_rfl) (by simp) ?_
              refine AllReadyH.cons (i := 13) (o := _) rfl (fun K hK => ?_) AllReadyH.nil
              try simp only [List.getElem_toArray, List.getElem_cons_zero, List.getElem_cons_succ]
              go_simp
              refine (T4.out _).mono ?_
              rintro e w6 ⟨rfl, hb⟩
              go_wp2_with fail
              have A := A.later hb
              have hB := hB.trans hb
              refine hK.out _ _ (KP.out _ hB) (fun hS => ?_)
              clear hK K hb
              try simp only [Act.put, List.getElem_toArray, List.getElem_cons_zero, List.getElem_cons_succ, List.setIfInBounds_toArray, List.set_cons_zero, List.set_cons_succ]
              refine wpAnyH_take (i := 14) (oi := _) (v := (Value.agg (List.toArray [.int .i64 r0.v, .int .i64 r0.l, .int .i64 r0.h, .bool r0.bad, .int .i64 r1.v, .int .i64 r1.l, .int .i64 r1.h, .bool r1.bad, .int .i64 r2.v, .int .i64 r2.l, .int .i64 r2.h, .bool r2.bad, .int .i64 r3.v, .int .i64 r3.l, .int .i64 r3.h, .bool r3.bad, .int .i64 r4.v, .int .i64 r4.l, .int .i64 r4.h, .bool r4.bad]))) rfl (by kernel_rfl) (by kernel_rfl) (by kernel_rfl) (fun _ _ _ h => h) (Or.inl ⟨by rfl, ?_⟩) hS ?_
              · intro u hSu
                try dsimp only at hSu
                obtain ⟨s0, s1, s2, s3, s4, s5, s6, s7, s8⟩ := hSu
                go_simp
              try simp only [Act.put, List.getElem_toArray, List.getElem_cons_zero, List.getElem_cons_succ, List.setIfInBounds_toArray, List.set_cons_zero, List.set_cons_succ]
              refine wpAnyH_ready (rs := [16]) (by kernel_rfl) (by simp) ?_
              refine AllReadyH.cons (i := 16) (o := _) rfl (fun K hK => ?_) AllReadyH.nil
              try simp only [List.getElem_toArray, List.getElem_cons_zero, List.getElem_cons_succ]
              rw [if_pos (by rfl)]
              refine wp_store_mid 26 _ _ rfl _ 0 (List.toArray [.int .i64 r0.v, .int .i64 r0.l, .int .i64 r0.h, .bool r0.bad, .int .i64 r1.v, .int .i64 r1.l, .int .i64 r1.h, .bool r1.bad, .int .i64 r2.v, .int .i64 r2.l, .int .i64 r2.h, .bool r2.bad, .int .i64 r3.v, .int .i64 r3.l, .int .i64 r3.h, .bool r3.bad, .int .i64 r4.v, .int .i64 r4.l, .int .i64 r4.h, .bool r4.bad]) rfl rfl A.there (by kernel_rfl) (by kernel_rfl) ?_
              refine hK.out _ _ (KP.out _ (bl_setCells hB hle _ _)) (fun hS => ?_)
              clear hK K
              refine wpAnyH_done (by kernel_rfl) ?_ _
              refine NoPanic.normal ?_
              try dsimp only [Act.put]
              go_wp2
              go_meet
              exact ⟨_, rfl, bl_setCells hB hle _ _, World.rangeAt_setCells_same _ _ 0 [.int .i64 r0.v, .int .i64 r0.l, .int .i64 r0.h, .bool r0.bad, .int .i64 r1.v, .int .i64 r1.l, .int .i64 r1.h, .bool r1.bad, .int .i64 r2.v, .int .i64 r2.l, .int .i64 r2.h, .bool r2.bad, .int .i64 r3.v, .int .i64 r3.l, .int .i64 r3.h, .bool r3.bad, .int .i64 r4.v, .int .i64 r4.l, .int .i64 r4.h, .bool r4.bad] A.there⟩
          · skip
            refine AllReadyH.cons (i := 15) (o := _) rfl (fun K hK => ?_) AllReadyH.nil
            try simp only [List.getElem_toArray, List.getElem_cons_zero, List.getElem_cons_succ]
            go_simp
            have A := Arr.alloc w3
            have hle := Below.size hB
            have hB := hB.alloc (.cells #[.int .i64 0, .int .i64 0, .int .i64 0, .bool false, .int .i64 0, .int .i64 0, .int .i64 0, .bool false, .int .i64 0, .int .i64 0, .int .i64 0, .bool false, .int .i64 0, .int .i64 0, .int .i64 0, .bool false, .int .i64 0, .int .i64 0, .int .i64 0, .bool false] 26)
            refine hK.out _ _ (KP.out _ hB) (fun hS => ?_)
            clear hK K
            try simp only [Act.put, List.getElem_toArray, List.getElem_cons_zero, List.getElem_cons_succ, List.setIfInBounds_toArray, List.set_cons_zero, List.set_cons_succ]
            refine wpAnyH_ready (rs := [11]) (by kernel_rfl) (by simp) ?_
            refine AllReadyH.cons (i := 11) (o := _) rfl (fun K hK => ?_) AllReadyH.nil
            try simp only [List.getElem_toArray, List.getElem_cons_zero, List.getElem_cons_succ]
            go_simp
            refine (T3.out _).mono ?_
            rintro e w7 ⟨rfl, hb⟩
            go_wp2_with fail
            have A := A.later hb
            have hB := hB.trans hb
            refine hK.out _ _ (KP.out _ hB) (fun hS => ?_)
            clear hK K hb
            try simp only [Act.put, List.getElem_toArray, List.getElem_cons_zero, List.getElem_cons_succ, List.setIfInBounds_toArray, List.set_cons_zero, List.set_cons_succ]
            refine wpAnyH_ready (rs := [13]) (by kernel_rfl) (by simp) ?_
            refine AllReadyH.cons (i := 13) (o := _) rfl (fun K hK => ?_) AllReadyH.nil
            try simp only [List.getElem_toArray, List.getElem_cons_zero, List.getElem_cons_succ]
            go_simp
            refine (T4.out _).mono ?_
            rintro e w8 ⟨rfl, hb⟩
            go_wp2_with fail
            have A := A.later hb
            have hB := hB.trans hb
            refine hK.out _ _ (KP.out _ hB) (fun hS => ?_)
            clear hK K hb
            try simp only [Act.put, List.getElem_toArray, List.getElem_cons_zero, List.getElem_cons_succ, List.setIfInBounds_toArray, List.set_cons_zero, List.set_cons_succ]
            refine wpAnyH_take (i := 14) (oi := _) (v := (Value.agg (List.toArray [.int .i64 r0.v, .int .i64 r0.l, .int .i64 r0.h, .bool r0.bad, .int .i64 r1.v, .int .i64 r1.l, .int .i64 r1.h, .bool r1.bad, .int .i64 r2.v, .int .i64 r2.l, .int .i64 r2.h, .bool r2.bad, .int .i64 r3.v, .int .i64 r3.l, .int .i64 r3.h, .bool r3.bad, .int .i64 r4.v, .int .i64 r4.l, .int .i64 r4.h, .bool r4.bad]))) rfl (by kernel_rfl) (by kernel_rfl) (by kernel_rfl) (fun _ _ _ h => h) (Or.inl ⟨by rfl, ?_⟩) hS ?_
            · intro u hSu
              try dsimp only at hSu
              obtain ⟨s0, s1, s2, s3, s4, s5, s6, s7, s8⟩ := hSu
              go_simp
            try simp only [Act.put, List.getElem_toArray, List.getElem_cons_zero, List.getElem_cons_succ, List.setIfInBounds_toArray, List.set_cons_zero, List.set_cons_succ]
            refine wpAnyH_ready (rs := [16]) (by kernel_rfl) (by simp) ?_
            refine AllReadyH.cons (i := 16) (o := _) rfl (fun K hK => ?_) AllReadyH.nil
            try simp only [List.getElem_toArray, List.getElem_cons_zero, List.getElem_cons_succ]
            rw [if_pos (by rfl)]
            refine wp_store_mid 26 _ _ rfl _ 0 (List.toArray [.int .i64 r0.v, .int .i64 r0.l, .int .i64 r0.h, .bool r0.bad, .int .i64 r1.v, .int .i64 r1.l, .int .i64 r1.h, .bool r1.bad, .int .i64 r2.v, .int .i64 r2.l, .int .i64 r2.h, .bool r2.bad, .int .i64 r3.v, .int .i64 r3.l, .int .i64 r3.h, .bool r3.bad, .int .i64 r4.v, .int .i64 r4.l, .int .i64 r4.h, .bool r4.bad]) rfl rfl A.there (by kernel_rfl) (by kernel_rfl) ?_
            refine hK.out _ _ (KP.out _ (bl_setCells hB hle _ _)) (fun hS => ?_)
            clear hK K
            refine wpAnyH_done (by kernel_rfl) ?_ _
            refine NoPanic.normal ?_
            try dsimp only [Act.put]
            go_wp2
            go_meet
            exact ⟨_, rfl, bl_setCells hB hle _ _, World.rangeAt_setCells_same _ _ 0 [.int .i64 r0.v, .int .i64 r0.l, .int .i64 r0.h, .bool r0.bad, .int .i64 r1.v, .int .i64 r1.l, .int .i64 r1.h, .bool r1.bad, .int .i64 r2.v, .int .i64 r2.l, .int .i64 r2.h, .bool r2.bad, .int .i64 r3.v, .int .i64 r3.l, .int .i64 r3.h, .bool r3.bad, .int .i64 r4.v, .int .i64 r4.l, .int .i64 r4.h, .bool r4.bad] A.there⟩
        · skip
          refine AllReadyH.cons (i := 15) (o := _) rfl (fun K hK => ?_) AllReadyH.nil
          try simp only [List.getElem_toArray, List.getElem_cons_zero, List.getElem_cons_succ]
          go_simp
          have A := Arr.alloc w2
          have hle := Below.size hB
          have hB := hB.alloc (.cells #[.int .i64 0, .int .i64 0, .int .i64 0, .bool false, .int .i64 0, .int .i64 0, .int .i64 0, .bool false, .int .i64 0, .int .i64 0, .int .i64 0, .bool false, .int .i64 0, .int .i64 0, .int .i64 0, .bool false, .int .i64 0, .int .i64 0, .int .i64 0, .bool false] 26)
          refine hK.out _ _ (KP.out _ hB) (fun hS => ?_)
          clear hK K
          try simp only [Act.put, List.getElem_toArray, List.getElem_cons_zero, List.getElem_cons_succ, List.setIfInBounds_toArray, List.set_cons_zero, List.set_cons_succ]
          refine wpAnyH_ready (rs := [8]) (by kernel_rfl) (by simp) ?_
          refine AllReadyH.cons (i := 8) (o := _) rfl (fun K hK => ?_) AllReadyH.nil
          try simp only [List.getElem_toArray, List.getElem_cons_zero, List.getElem_cons_succ]
          go_simp
          refine (T2.out _).mono ?_
          rintro e w9 ⟨rfl, hb⟩
          go_wp2_with fail
          have A := A.later hb
          have hB := hB.trans hb
          refine hK.out _ _ (KP.out _ hB) (fun hS => ?_)
          clear hK K hb
          try simp only [Act.put, List.getElem_toArray, List.getElem_cons_zero, List.getElem_cons_succ, List.setIfInBounds_toArray, List.set_cons_zero, List.set_cons_succ]
          refine wpAnyH_ready (rs := [11]) (by kernel_rfl) (by simp) ?_
          refine AllReadyH.cons (i := 11) (o := _) rfl (fun K hK => ?_) AllReadyH.nil
          try simp only [List.getElem_toArray, List.getElem_cons_zero, List.getElem_cons_succ]
          go_simp
          refine (T3.out _).mono ?_
          rintro e w10 ⟨rfl, hb⟩
          go_wp2_with fail
          have A := A.later hb
          have hB := hB.trans hb
          refine hK.out _ _ (KP.out _ hB) (fun hS => ?_)
          clear hK K hb
          try simp only [Act.put, List.getElem_toArray, List.getElem_cons_zero, List.getElem_cons_succ, List.setIfInBounds_toArray, List.set_cons_zero, List.set_cons_succ]
          refine wpAnyH_ready (rs := [13]) (by kernel_rfl) (by simp) ?_
          refine AllReadyH.cons (i := 13) (o := _) rfl (fun K hK => ?_) AllReadyH.nil
          try simp only [List.getElem_toArray, List.getElem_cons_zero, List.getElem_cons_succ]
          go_simp
          refine (T4.out _).mono ?_
          rintro e w11 ⟨rfl, hb⟩
          go_wp2_with fail
          have A := A.later hb
          have hB := hB.trans hb
          refine hK.out _ _ (KP.out _ hB) (fun hS => ?_)
          clear hK K hb
          try simp only [Act.put, List.getElem_toArray, List.getElem_cons_zero, List.getElem_cons_succ, List.setIfInBounds_toArray, List.set_cons_zero, List.set_cons_succ]
          refine wpAnyH_take (i := 14) (oi := _) (v := (Value.agg (List.toArray [.int .i64 r0.v, .int .i64 r0.l, .int .i64 r0.h, .bool r0.bad, .int .i64 r1.v, .int .i64 r1.l, .int .i64 r1.h, .bool r1.bad, .int .i64 r2.v, .int .i64 r2.l, .int .i64 r2.h, .bool r2.bad, .int .i64 r3.v, .int .i64 r3.l, .int .i64 r3.h, .bool r3.bad, .int .i64 r4.v, .int .i64 r4.l, .int .i64 r4.h, .bool r4.bad]))) rfl (by kernel_rfl) (by kernel_rfl) (by kernel_rfl) (fun _ _ _ h => h) (Or.inl ⟨by rfl, ?_⟩) hS ?_
          · intro u hSu
            try dsimp only at hSu
            obtain ⟨s0, s1, s2, s3, s4, s5, s6, s7, s8⟩ := hSu
            go_simp
          try simp only [Act.put, List.getElem_toArray, List.getElem_cons_zero, List.getElem_cons_succ, List.setIfInBounds_toArray, List.set_cons_zero, List.set_cons_succ]
          refine wpAnyH_ready (rs := [16]) (by kernel_rfl) (by simp) ?_
          refine AllReadyH.cons (i := 16) (o := _) rfl (fun K hK => ?_) AllReadyH.nil
          try simp only [List.getElem_toArray, List.getElem_cons_zero, List.getElem_cons_succ]
          rw [if_pos (by rfl)]
          refine wp_store_mid 26 _ _ rfl _ 0 (List.toArray [.int .i64 r0.v, .int .i64 r0.l, .int .i64 r0.h, .bool r0.bad, .int .i64 r1.v, .int .i64 r1.l, .int .i64 r1.h, .bool r1.bad, .int .i64 r2.v, .int .i64 r2.l, .int .i64 r2.h, .bool r2.bad, .int .i64 r3.v, .int .i64 r3.l, .int .i64 r3.h, .bool r3.bad, .int .i64 r4.v, .int .i64 r4.l, .int .i64 r4.h, .bool r4.bad]) rfl rfl A.there (by kernel_rfl) (by kernel_rfl) ?_
          refine hK.out _ _ (KP.out _ (bl_setCells hB hle _ _)) (fun hS => ?_)
          clear hK K
          refine wpAnyH_done (by kernel_rfl) ?_ _
          refine NoPanic.normal ?_
          try dsimp only [Act.put]
          go_wp2
          go_meet
          exact ⟨_, rfl, bl_setCells hB hle _ _, World.rangeAt_setCells_same _ _ 0 [.int .i64 r0.v, .int .i64 r0.l, .int .i64 r0.h, .bool r0.bad, .int .i64 r1.v, .int .i64 r1.l, .int .i64 r1.h, .bool r1.bad, .int .i64 r2.v, .int .i64 r2.l, .int .i64 r2.h, .bool r2.bad, .int .i64 r3.v, .int .i64 r3.l, .int .i64 r3.h, .bool r3.bad, .int .i64 r4.v, .int .i64 r4.l, .int .i64 r4.h, .bool r4.bad] A.there⟩
      · skip
        refine AllReadyH.cons (i := 15) (o := _) rfl (fun K hK => ?_) AllReadyH.nil
        try simp only [List.getElem_toArray, List.getElem_cons_zero, List.getElem_cons_succ]
        go_simp
        have A := Arr.alloc w1
        have hle := Below.size hB
        have hB := hB.alloc (.cells #[.int .i64 0, .int .i64 0, .int .i64 0, .bool false, .int .i64 0, .int .i64 0, .int .i64 0, .bool false, .int .i64 0, .int .i64 0, .int .i64 0, .bool false, .int .i64 0, .int .i64 0, .int .i64 0, .bool false, .int .i64 0, .int .i64 0, .int .i64 0, .bool false] 26)
        refine hK.out _ _ (KP.out _ hB) (fun hS => ?_)
        clear hK K
        try simp only [Act.put, List.getElem_toArray, List.getElem_cons_zero, List.getElem_cons_succ, List.setIfInBounds_toArray, List.set_cons_zero, List.set_cons_succ]
        refine wpAnyH_ready (rs := [5]) (by kernel_rfl) (by simp) ?_
        refine AllReadyH.cons (i := 5) (o := _) rfl (fun K hK => ?_) AllReadyH.nil
        try simp only [List.getElem_toArray, List.getElem_cons_zero, List.getElem_cons_succ]
        go_simp
        refine (T1.out _).mono ?_
        rintro e w12 ⟨rfl, hb⟩
        go_wp2_with fail
        have A := A.later hb
        have hB := hB.trans hb
        refine hK.out _ _ (KP.out _ hB) (fun hS => ?_)
        clear hK K hb
        try simp only [Act.put, List.getElem_toArray, List.getElem_cons_zero, List.getElem_cons_succ, List.setIfInBounds_toArray, List.set_cons_zero, List.set_cons_succ]
        refine wpAnyH_ready (rs := [8]) (by kernel_rfl) (by simp) ?_
        refine AllReadyH.cons (i := 8) (o := _) rfl (fun K hK => ?_) AllReadyH.nil
        try simp only [List.getElem_toArray, List.getElem_cons_zero, List.getElem_cons_succ]
        go_simp
        refine (T2.out _).mono ?_
        rintro e w13 ⟨rfl, hb⟩
        go_wp2_with fail
        have A := A.later hb
        have hB := hB.trans hb
        refine hK.out _ _ (KP.out _ hB) (fun hS => ?_)
        clear hK K hb
        try simp only [Act.put, List.getElem_toArray, List.getElem_cons_zero, List.getElem_cons_succ, List.setIfInBounds_toArray, List.set_cons_zero, List.set_cons_succ]
        refine wpAnyH_ready (rs := [11]) (by kernel_rfl) (by simp) ?_
        refine AllReadyH.cons (i := 11) (o := _) rfl (fun K hK => ?_) AllReadyH.nil
        try simp only [List.getElem_toArray, List.getElem_cons_zero, List.getElem_cons_succ]
        go_simp
        refine (T3.out _).mono ?_
        rintro e w14 ⟨rfl, hb⟩
        go_wp2_with fail
        have A := A.later hb
        have hB := hB.trans hb
        refine hK.out _ _ (KP.out _ hB) (fun hS => ?_)
        clear hK K hb
        try simp only [Act.put, List.getElem_toArray, List.getElem_cons_zero, List.getElem_cons_succ, List.setIfInBounds_toArray, List.set_cons_zero, List.set_cons_succ]
        refine wpAnyH_ready (rs := [13]) (by kernel_rfl) (by simp) ?_
        refine AllReadyH.cons (i := 13) (o := _) rfl (fun K hK => ?_) AllReadyH.nil
        try simp only [List.getElem_toArray, List.getElem_cons_zero, List.getElem_cons_succ]
        go_simp
        refine (T4.out _).mono ?_
        rintro e w15 ⟨rfl, hb⟩
        go_wp2_with fail
        have A := A.later hb
        have hB := hB.trans hb
        refine hK.out _ _ (KP.out _ hB) (fun hS => ?_)
        clear hK K hb
        try simp only [Act.put, List.getElem_toArray, List.getElem_cons_zero, List.getElem_cons_succ, List.setIfInBounds_toArray, List.set_cons_zero, List.set_cons_succ]
        refine wpAnyH_take (i := 14) (oi := _) (v := (Value.agg (List.toArray [.int .i64 r0.v, .int .i64 r0.l, .int .i64 r0.h, .bool r0.bad, .int .i64 r1.v, .int .i64 r1.l, .int .i64 r1.h, .bool r1.bad, .int .i64 r2.v, .int .i64 r2.l, .int .i64 r2.h, .bool r2.bad, .int .i64 r3.v, .int .i64 r3.l, .int .i64 r3.h, .bool r3.bad, .int .i64 r4.v, .int .i64 r4.l, .int .i64 r4.h, .bool r4.bad]))) rfl (by kernel_rfl) (by kernel_rfl) (by kernel_rfl) (fun _ _ _ h => h) (Or.inl ⟨by rfl, ?_⟩) hS ?_
        · intro u hSu
          try dsimp only at hSu
          obtain ⟨s0, s1, s2, s3, s4, s5, s6, s7, s8⟩ := hSu
          go_simp
        try simp only [Act.put, List.getElem_toArray, List.getElem_cons_zero, List.getElem_cons_succ, List.setIfInBounds_toArray, List.set_cons_zero, List.set_cons_succ]
        refine wpAnyH_ready (rs := [16]) (by kernel_rfl) (by simp) ?_
        refine AllReadyH.cons (i := 16) (o := _) rfl (fun K hK => ?_) AllReadyH.nil
        try simp only [List.getElem_toArray, List.getElem_cons_zero, List.getElem_cons_succ]
        rw [if_pos (by rfl)]
        refine wp_store_mid 26 _ _ rfl _ 0 (List.toArray [.int .i64 r0.v, .int .i64 r0.l, .int .i64 r0.h, .bool r0.bad, .int .i64 r1.v, .int .i64 r1.l, .int .i64 r1.h, .bool r1.bad, .int .i64 r2.v, .int .i64 r2.l, .int .i64 r2.h, .bool r2.bad, .int .i64 r3.v, .int .i64 r3.l, .int .i64 r3.h, .bool r3.bad, .int .i64 r4.v, .int .i64 r4.l, .int .i64 r4.h, .bool r4.bad]) rfl rfl A.there (by kernel_rfl) (by kernel_rfl) ?_
        refine hK.out _ _ (KP.out _ (bl_setCells hB hle _ _)) (fun hS => ?_)
        clear hK K
        refine wpAnyH_done (by kernel_rfl) ?_ _
        refine NoPanic.normal ?_
        try dsimp only [Act.put]
        go_wp2
        go_meet
        exact ⟨_, rfl, bl_setCells hB hle _ _, World.rangeAt_setCells_same _ _ 0 [.int .i64 r0.v, .int .i64 r0.l, .int .i64 r0.h, .bool r0.bad, .int .i64 r1.v, .int .i64 r1.l, .int .i64 r1.h, .bool r1.bad, .int .i64 r2.v, .int .i64 r2.l, .int .i64 r2.h, .bool r2.bad, .int .i64 r3.v, .int .i64 r3.l, .int .i64 r3.h, .bool r3.bad, .int .i64 r4.v, .int .i64 r4.l, .int .i64 r4.h, .bool r4.bad] A.there⟩
    · skip
      refine AllReadyH.cons (i := 15) (o := _) rfl (fun K hK => ?_) AllReadyH.nil
      try simp only [List.getElem_toArray, List.getElem_cons_zero, List.getElem_cons_succ]
      go_simp
      have A := Arr.alloc W1
      have hle := Below.size hB
      have hB := hB.alloc (.cells #[.int .i64 0, .int .i64 0, .int .i64 0, .bool false, .int .i64 0, .int .i64 0, .int .i64 0, .bool false, .int .i64 0, .int .i64 0, .int .i64 0, .bool false, .int .i64 0, .int .i64 0, .int .i64 0, .bool false, .int .i64 0, .int .i64 0, .int .i64 0, .bool false] 26)
      refine hK.out _ _ (KP.out _ hB) (fun hS => ?_)
      clear hK K
      try simp only [Act.put, List.getElem_toArray, List.getElem_cons_zero, List.getElem_cons_succ, List.setIfInBounds_toArray, List.set_cons_zero, List.set_cons_succ]
      refine wpAnyH_ready (rs := [2]) (by kernel_rfl) (by simp) ?_
      refine AllReadyH.cons (i := 2) (o := _) rfl (fun K hK => ?_) AllReadyH.nil
      try simp only [List.getElem_toArray, List.getElem_cons_zero, List.getElem_cons_succ]
      go_simp
      refine (T0.out _).mono ?_
      rintro e w16 ⟨rfl, hb⟩
      go_wp2_with fail
      have A := A.later hb
      have hB := hB.trans hb
      refine hK.out _ _ (KP.out _ hB) (fun hS => ?_)
      clear hK K hb
      try simp only [Act.put, List.getElem_toArray, List.getElem_cons_zero, List.getElem_cons_succ, List.setIfInBounds_toArray, List.set_cons_zero, List.set_cons_succ]
      refine wpAnyH_ready (rs := [5]) (by kernel_rfl) (by simp) ?_
      refine AllReadyH.cons (i := 5) (o := _) rfl (fun K hK => ?_) AllReadyH.nil
      try simp only [List.getElem_toArray, List.getElem_cons_zero, List.getElem_cons_succ]
      go_simp
      refine (T1.out _).mono ?_
      rintro e w17 ⟨rfl, hb⟩
      go_wp2_with fail
      have A := A.later hb
      have hB := hB.trans hb
      refine hK.out _ _ (KP.out _ hB) (fun hS => ?_)
      clear hK K hb
      try simp only [Act.put, List.getElem_toArray, List.getElem_cons_zero, List.getElem_cons_succ, List.setIfInBounds_toArray, List.set_cons_zero, List.set_cons_succ]
      refine wpAnyH_ready (rs := [8]) (by kernel_rfl) (by simp) ?_
      refine AllReadyH.cons (i := 8) (o := _) rfl (fun K hK => ?_) AllReadyH.nil
      try simp only [List.getElem_toArray, List.getElem_cons_zero, List.getElem_cons_succ]
      go_simp
      refine (T2.out _).mono ?_
      rintro e w18 ⟨rfl, hb⟩
      go_wp2_with fail
      have A := A.later hb
      have hB := hB.trans hb
      refine hK.out _ _ (KP.out _ hB) (fun hS => ?_)
      clear hK K hb
      try simp only [Act.put, List.getElem_toArray, List.getElem_cons_zero, List.getElem_cons_succ, List.setIfInBounds_toArray, List.set_cons_zero, List.set_cons_succ]
      refine wpAnyH_ready (rs := [11]) (by kernel_rfl) (by simp) ?_
      refine AllReadyH.cons (i := 11) (o := _) rfl (fun K hK => ?_) AllReadyH.nil
      try simp only [List.getElem_toArray, List.getElem_cons_zero, List.getElem_cons_succ]
      go_simp
      refine (T3.out _).mono ?_
      rintro e w19 ⟨rfl, hb⟩
      go_wp2_with fail
      have A := A.later hb
      have hB := hB.trans hb
      refine hK.out _ _ (KP.out _ hB) (fun hS => ?_)
      clear hK K hb
      try simp only [Act.put, List.getElem_toArray, List.getElem_cons_zero, List.getElem_cons_succ, List.setIfInBounds_toArray, List.set_cons_zero, List.set_cons_succ]
      refine wpAnyH_ready (rs := [13]) (by kernel_rfl) (by simp) ?_
      refine AllReadyH.cons (i := 13) (o := _) rfl (fun K hK => ?_) AllReadyH.nil
      try simp only [List.getElem_toArray, List.getElem_cons_zero, List.getElem_cons_succ]
      go_simp
      refine (T4.out _).mono ?_
      rintro e w20 ⟨rfl, hb⟩
      go_wp2_with fail
      have A := A.later hb
      have hB := hB.trans hb
      refine hK.out _ _ (KP.out _ hB) (fun hS => ?_)
      clear hK K hb
      try simp only [Act.put, List.getElem_toArray, List.getElem_cons_zero, List.getElem_cons_succ, List.setIfInBounds_toArray, List.set_cons_zero, List.set_cons_succ]
      refine wpAnyH_take (i := 14) (oi := _) (v := (Value.agg (List.toArray [.int .i64 r0.v, .int .i64 r0.l, .int .i64 r0.h, .bool r0.bad, .int .i64 r1.v, .int .i64 r1.l, .int .i64 r1.h, .bool r1.bad, .int .i64 r2.v, .int .i64 r2.l, .int .i64 r2.h, .bool r2.bad, .int .i64 r3.v, .int .i64 r3.l, .int .i64 r3.h, .bool r3.bad, .int .i64 r4.v, .int .i64 r4.l, .int .i64 r4.h, .bool r4.bad]))) rfl (by kernel_rfl) (by kernel_rfl) (by kernel_rfl) (fun _ _ _ h => h) (Or.inl ⟨by rfl, ?_⟩) hS ?_
      · intro u hSu
        try dsimp only at hSu
        obtain ⟨s0, s1, s2, s3, s4, s5, s6, s7, s8⟩ := hSu
        go_simp
      try simp only [Act.put, List.getElem_toArray, List.getElem_cons_zero, List.getElem_cons_succ, List.setIfInBounds_toArray, List.set_cons_zero, List.set_cons_succ]
      refine wpAnyH_ready (rs := [16]) (by kernel_rfl) (by simp) ?_
      refine AllReadyH.cons (i := 16) (o := _) rfl (fun K hK => ?_) AllReadyH.nil
      try simp only [List.getElem_toArray, List.getElem_cons_zero, List.getElem_cons_succ]
      rw [if_pos (by rfl)]
      refine wp_store_mid 26 _ _ rfl _ 0 (List.toArray [.int .i64 r0.v, .int .i64 r0.l, .int .i64 r0.h, .bool r0.bad, .int .i64 r1.v, .int .i64 r1.l, .int .i64 r1.h, .bool r1.bad, .int .i64 r2.v, .int .i64 r2.l, .int .i64 r2.h, .bool r2.bad, .int .i64 r3.v, .int .i64 r3.l, .int .i64 r3.h, .bool r3.bad, .int .i64 r4.v, .int .i64 r4.l, .int .i64 r4.h, .bool r4.bad]) rfl rfl A.there (by kernel_rfl) (by kernel_rfl) ?_
      refine hK.out _ _ (KP.out _ (bl_setCells hB hle _ _)) (fun hS => ?_)
      clear hK K
      refine wpAnyH_done (by kernel_rfl) ?_ _
      refine NoPanic.normal ?_
      try dsimp only [Act.put]
      go_wp2
      go_meet
      exact ⟨_, rfl, bl_setCells hB hle _ _, World.rangeAt_setCells_same _ _ 0 [.int .i64 r0.v, .int .i64 r0.l, .int .i64 r0.h, .bool r0.bad, .int .i64 r1.v, .int .i64 r1.l, .int .i64 r1.h, .bool r1.bad, .int .i64 r2.v, .int .i64 r2.l, .int .i64 r2.h, .bool r2.bad, .int .i64 r3.v, .int .i64 r3.l, .int .i64 r3.h, .bool r3.bad, .int .i64 r4.v, .int .i64 r4.l, .int .i64 r4.h, .bool r4.bad] A.there⟩
  case rest =>
    obtain ⟨blk, rfl, hB, hR⟩ := hcut
    have HRG := hideP hR
    clear hR
    have HB := hideP hB
    clear hB
    go_wp2_with (refine wpList_load_mid (P := Try.prog) rfl 26 _ rfl blk 0 rfl [.int .i64 r0.v, .int .i64 r0.l, .int .i64 r0.h, .bool r0.bad, .int .i64 r1.v, .int .i64 r1.l, .int .i64 r1.h, .bool r1.bad, .int .i64 r2.v, .int .i64 r2.l, .int .i64 r2.h, .bool r2.bad, .int .i64 r3.v, .int .i64 r3.l, .int .i64 r3.h, .bool r3.bad, .int .i64 r4.v, .int .i64 r4.l, .int .i64 r4.h, .bool r4.bad] _ HRG.out Try.underlying26 rfl (by kernel_rfl) ?_)
    go_loopw [25] (fun i wr => ∃ k : Nat, k ≤ 5 ∧ i = .int .i64 k ∧ Bl wc wr) (fun i _ => 5 - (intOf i).toNat)
    case atStart => exact ⟨0, by omega, rfl, Bl.refl _⟩
    case round =>
      obtain ⟨k, hk, rfl, hr⟩ := hrel
      have HR := hideP (HB.out.trans hr)
      have HR2 := hideP hr
      clear hr
      by_cases hlt : k < 5
      · have ix := idx5 r0 r1 r2 r3 r4 k hlt
        by_cases h4 : k = 4
        · have hb : ((k : Int) == 4) = true := by rw [h4]; rfl
          have DK := hideP (show ∀ w, Calls Try.prog 17 #[.int .i64 k, enV a, enV a] w fun e w' => e = .returned (enV (sel5 r0 r1 r2 r3 r4 k)) ∧ Bl w w' by rw [h4]; exact D4.out)
          clear h4
          generalize sel5 r0 r1 r2 r3 r4 k = x at *
          obtain ⟨V, Y⟩ := ab_ex wr x a
          have HY := hideP Y
          clear Y
          obtain ⟨a0, a1, a2, a3, _, _, _, _, _⟩ := HX.out.ba.later HR.out
          obtain ⟨b0, b1, b2, b3, _, _, _, _, _⟩ := HX.out.bb.later HR.out
          go_upto_region 8 with fail
          rw [← HY.out.eq]
          clear a0 a1 a2 a3 b0 b1 b2 b3
          obtain ⟨x0, x1, x2, x3⟩ := HY.out.ba.wl
          obtain ⟨y0, y1, y2, y3⟩ := HY.out.bb.wl
          obtain ⟨a0, a1, a2, a3⟩ := (HX.out.ba.later (HR.out.trans HY.out.bl)).wl
          have wne := wl_ne V
          refine wl_region V (Bl.refl _) (by kernel_rfl) (by kernel_rfl) ?_
          repeat (go_big_quiet_step (first | (go_at_call_of 16 #[Value.agg #[.int .i64 x.v, .int .i64 x.l, .int .i64 x.h, .bool x.bad]]; exact wl_call (given_any x _)) | (go_at_call_of 16 #[Value.agg #[.int .i64 a.v, .int .i64 a.l, .int .i64 a.h, .bool a.bad]]; exact wl_call (given_any a _)) | (go_at_call_of 16 #[Value.agg #[.int .i64 b.v, .int .i64 b.l, .int .i64 b.h, .bool b.bad]]; exact wl_call (given_any b _)) | (go_at_call 17; exact wl_call (DK.out _))))
          refine wpQuiet_nil ?_
          intro _ hw'
          obtain ⟨z, hw''⟩ := hw'
          subst hw''
          clear wne
          obtain ⟨w9, h9⟩ := z
          dsimp only
          have H9 := hideP ((HR2.out.trans HY.out.bl).trans h9)
          clear h9 x0 x1 x2 x3 y0 y1 y2 y3 a0 a1 a2 a3
          go_wp2
          go_roundw
          case rel => exact ⟨k + 1, by omega, by go_num, H9.out⟩
          case measure => simp [intOf]; omega
        · have hb : ((k : Int) == 4) = false := by simp; omega
          have DK := hideP (show ∀ w, Calls Try.prog 17 #[.int .i64 k, enV a, enV b] w fun e w' => e = .returned (enV (sel5 r0 r1 r2 r3 r4 k)) ∧ Bl w w' by
            rcases (by omega : k = 0 ∨ k = 1 ∨ k = 2 ∨ k = 3) with rfl | rfl | rfl | rfl
            · exact D0.out
            · exact D1.out
            · exact D2.out
            · exact D3.out)
          clear h4
          generalize sel5 r0 r1 r2 r3 r4 k = x at *
          obtain ⟨V, Y⟩ := ab_ex wr x b
          have HY := hideP Y
          clear Y
          obtain ⟨a0, a1, a2, a3, _, _, _, _, _⟩ := HX.out.ba.later HR.out
          obtain ⟨b0, b1, b2, b3, _, _, _, _, _⟩ := HX.out.bb.later HR.out
          go_upto_region 8 with fail
          rw [← HY.out.eq]
          clear a0 a1 a2 a3 b0 b1 b2 b3
          obtain ⟨x0, x1, x2, x3⟩ := HY.out.ba.wl
          obtain ⟨y0, y1, y2, y3⟩ := HY.out.bb.wl
          obtain ⟨a0, a1, a2, a3⟩ := (HX.out.ba.later (HR.out.trans HY.out.bl)).wl
          have wne := wl_ne V
          refine wl_region V (Bl.refl _) (by kernel_rfl) (by kernel_rfl) ?_
          repeat (go_big_quiet_step (first | (go_at_call_of 16 #[Value.agg #[.int .i64 x.v, .int .i64 x.l, .int .i64 x.h, .bool x.bad]]; exact wl_call (given_any x _)) | (go_at_call_of 16 #[Value.agg #[.int .i64 a.v, .int .i64 a.l, .int .i64 a.h, .bool a.bad]]; exact wl_call (given_any a _)) | (go_at_call_of 16 #[Value.agg #[.int .i64 b.v, .int .i64 b.l, .int .i64 b.h, .bool b.bad]]; exact wl_call (given_any b _)) | (go_at_call 17; exact wl_call (DK.out _))))
          refine wpQuiet_nil ?_
          intro _ hw'
          obtain ⟨z, hw''⟩ := hw'
          subst hw''
          clear wne
          obtain ⟨w9, h9⟩ := z
          dsimp only
          have H9 := hideP ((HR2.out.trans HY.out.bl).trans h9)
          clear h9 x0 x1 x2 x3 y0 y1 y2 y3 a0 a1 a2 a3
          go_wp2
          go_roundw
          case rel => exact ⟨k + 1, by omega, by go_num, H9.out⟩
          case measure => simp [intOf]; omega
      · obtain rfl : k = 5 := by omega
        clear hk hlt
        have FA := hideP (fine_any a)
        have FR := hideP (refFine_any a)
        generalize fineB a = fa at *
        obtain ⟨a0, a1, a2, a3⟩ := (HX.out.ba.later HR.out).wl
        go_upto_region 11 with fail
        have wne := wl_ne wr
        refine wl_region wr (Bl.refl _) (by kernel_rfl) (by kernel_rfl) ?_
        repeat (go_big_quiet_step (first | (go_at_call 18; exact wl_call (FA.out _)) | (go_at_call 16; exact wl_call (given_any a _)) | (go_at_call 19; exact wl_call (FR.out _)) | (go_at_call 20; exact wl_call (awake3_any _))))
        refine wpQuiet_nil ?_
        intro _ hw'
        obtain ⟨z, hw''⟩ := hw'
        subst hw''
        clear wne
        obtain ⟨w9, h9⟩ := z
        dsimp only
        have H9 := hideP ((HX.out.bl.trans HR.out).trans h9)
        clear h9 a0 a1 a2 a3
        go_wp2
        go_ret
        exact ⟨rfl, H9.out⟩
end Go.Proofs.Ytgidengfnelggaa

/- MeasureParts: the walk. -/
import Derived.Test.YtblijgcfelnlmaaKP47
import Derived.Deep.DeepCutAuto
import Derived.Deep.CutBlock
import Derived.Deep.RegionHeld3
namespace Go.Proofs.Ytblijgcfelnlmaa.P09
open Go.RowKit Go.Proofs.Ytblijgcfelnlmaa.Base Go.Proofs.Ytblijgcfelnlmaa.Bytes Go.Proofs.Ytblijgcfelnlmaa.P07 Go.Proofs.Ytblijgcfelnlmaa.P08
open Go.Proofs.Ytblijgcfelnlmaa.Sets (ST)

set_option maxRecDepth 100000 in
set_option maxHeartbeats 16000000 in
theorem law_parts (t u : T) (a : Option Addr) (c : Nat) (b : Option Addr) (d : Nat) (w : World) (hta : Lie w (fun _ => True) a t.subs) (hcl : t.subs.length ≤ c) (ht : cnt t ≤ 400000000) (hst : SOk t) (hub : Lie w (fun _ => True) b u.subs) (hdl : u.subs.length ≤ d) (hu : cnt u ≤ 400000000) (hsu : SOk u) :
    Calls Try.prog 6 #[nodeV t a c, nodeV u b d] w fun e w' => e = .returned (.bool true) ∧ Keep (fun _ => False) w w' := by
  have q := ((Keep.refl (fun _ => False) w).alloc (.cells (ncells t a c) 27)).alloc (.cells (ncells u b d) 27)
  have a1 := (At.new w (ncells t a c) 27).alloc (.cells (ncells u b d) 27)
  have a2 := At.new (w.alloc (.cells (ncells t a c) 27)) (ncells u b d) 27
  rw [show (w.alloc (.cells (ncells t a c) 27)).heap.size = w.heap.size + 1 from by simp] at a2
  have H0 := Lib.hid (And.intro q (And.intro (hta.keepF q) (And.intro (hub.keepF q) (And.intro a1 a2))))
  have hsA : SOk (altT t u) := by unfold altT; rw [SOk, SOkL, SOkL, SOkL]; exact ⟨ST.none_ok, hst, hsu, trivial⟩
  have hsC : SOk (catT t u) := by unfold catT; rw [SOk, SOkL, SOkL, SOkL]; exact ⟨ST.none_ok, hst, hsu, trivial⟩
  have hcA : cnt (altT t u) ≤ 1000000000 := by unfold altT; rw [cnt, cntL, cntL, cntL]; omega
  have hcC : cnt (catT t u) ≤ 1000000000 := by unfold catT; rw [cnt, cntL, cntL, cntL]; omega
  have HCT := Lib.hid (And.intro hsA (And.intro hsC (And.intro hcA (And.intro hcC (And.intro hcl hdl)))))
  clear q hta hcl ht hst hub hdl hu hsu a1 a2 hsA hsC hcA hcC
  go_enter Try.func6, Try.ntmps6
  go_upto_region 1 with fail
  have hsz : ((w.alloc (.cells (ncells t a c) 27)).alloc (.cells (ncells u b d) 27)).heap.size = w.heap.size + 2 := by simp
  generalize ((w.alloc (.cells (ncells t a c) 27)).alloc (.cells (ncells u b d) 27)) = W at *
  have hS : ∀ w', Keep (fun _ => False) W w' → Keep (fun _ => False) W w' ∧ w'.cell? ⟨w.heap.size, 0, none⟩ = some (.int .i64 t.kind) ∧ w'.cell? ⟨w.heap.size, 1, none⟩ = some (.int .u64 t.set.x0) ∧ w'.cell? ⟨w.heap.size, 2, none⟩ = some (.int .u64 t.set.x1) ∧ w'.cell? ⟨w.heap.size, 3, none⟩ = some (.int .u64 t.set.x2) ∧ w'.cell? ⟨w.heap.size, 4, none⟩ = some (.int .u64 t.set.x3) ∧ w'.cell? ⟨w.heap.size, 5, none⟩ = some (.int .i64 t.mn) ∧ w'.cell? ⟨w.heap.size, 6, none⟩ = some (.int .i64 t.mx) ∧ w'.cell? ⟨w.heap.size, 7, none⟩ = some (.slice a t.subs.length c) ∧ w'.cell? ⟨(w.heap.size + 1), 0, none⟩ = some (.int .i64 u.kind) ∧ w'.cell? ⟨(w.heap.size + 1), 1, none⟩ = some (.int .u64 u.set.x0) ∧ w'.cell? ⟨(w.heap.size + 1), 2, none⟩ = some (.int .u64 u.set.x1) ∧ w'.cell? ⟨(w.heap.size + 1), 3, none⟩ = some (.int .u64 u.set.x2) ∧ w'.cell? ⟨(w.heap.size + 1), 4, none⟩ = some (.int .u64 u.set.x3) ∧ w'.cell? ⟨(w.heap.size + 1), 5, none⟩ = some (.int .i64 u.mn) ∧ w'.cell? ⟨(w.heap.size + 1), 6, none⟩ = some (.int .i64 u.mx) ∧ w'.cell? ⟨(w.heap.size + 1), 7, none⟩ = some (.slice b u.subs.length d) := fun w' q' => by
    obtain ⟨⟨x0, x1, x2, x3, x4, x5, x6, x7⟩, -⟩ := cells8 (H0.out.2.2.2.1.keep q' (fun h => h))
    obtain ⟨⟨y0, y1, y2, y3, y4, y5, y6, y7⟩, -⟩ := cells8 (H0.out.2.2.2.2.keep q' (fun h => h))
    exact ⟨q', x0, x1, x2, x3, x4, x5, x6, x7, y0, y1, y2, y3, y4, y5, y6, y7⟩
  have HS := Lib.hid hS
  clear hS
  go_wp2_with fail
  go_cut [5, 6] (fun v5 v6 wx => ∃ p5 p6 s1 s2, v5 = .pointer (some ⟨p5, 0, none⟩) ∧ v6 = .pointer (some ⟨p6, 0, none⟩) ∧ Par W wx t a c u b d p5 p6 s1 s2)
  case first =>
    refine wp_region_noPanic ?_
    refine wp_region_held_drew (S := (fun w' => Keep (fun _ => False) W w' ∧ w'.cell? ⟨w.heap.size, 0, none⟩ = some (.int .i64 t.kind) ∧ w'.cell? ⟨w.heap.size, 1, none⟩ = some (.int .u64 t.set.x0) ∧ w'.cell? ⟨w.heap.size, 2, none⟩ = some (.int .u64 t.set.x1) ∧ w'.cell? ⟨w.heap.size, 3, none⟩ = some (.int .u64 t.set.x2) ∧ w'.cell? ⟨w.heap.size, 4, none⟩ = some (.int .u64 t.set.x3) ∧ w'.cell? ⟨w.heap.size, 5, none⟩ = some (.int .i64 t.mn) ∧ w'.cell? ⟨w.heap.size, 6, none⟩ = some (.int .i64 t.mx) ∧ w'.cell? ⟨w.heap.size, 7, none⟩ = some (.slice a t.subs.length c) ∧ w'.cell? ⟨(w.heap.size + 1), 0, none⟩ = some (.int .i64 u.kind) ∧ w'.cell? ⟨(w.heap.size + 1), 1, none⟩ = some (.int .u64 u.set.x0) ∧ w'.cell? ⟨(w.heap.size + 1), 2, none⟩ = some (.int .u64 u.set.x1) ∧ w'.cell? ⟨(w.heap.size + 1), 3, none⟩ = some (.int .u64 u.set.x2) ∧ w'.cell? ⟨(w.heap.size + 1), 4, none⟩ = some (.int .u64 u.set.x3) ∧ w'.cell? ⟨(w.heap.size + 1), 5, none⟩ = some (.int .i64 u.mn) ∧ w'.cell? ⟨(w.heap.size + 1), 6, none⟩ = some (.int .i64 u.mx) ∧ w'.cell? ⟨(w.heap.size + 1), 7, none⟩ = some (.slice b u.subs.length d))) (by kernel_rfl) ?_ (fun hHeld => ?_)
    · exact HS.out _ ((Keep.refl _ _).drew)
    have HL := Lib.hid (Lg.start ((Keep.refl (fun _ => False) W).drew) (twoC t a c u b d))
    generalize W.drew = X0 at *
    refine wpAnyH_take (i := 0) (oi := _) (v := ?_) rfl (by kernel_rfl) (by kernel_rfl) (by kernel_rfl) (fun _ _ _ h => h) (Or.inl ⟨by rfl, ?_⟩) (by assumption) ?_
    rotate_left 1
    · (intro w hSw; (try dsimp only at hSw); go_simp; first | done | with_reducible rfl)
    try simp only [Act.put, List.setIfInBounds_toArray]
    refine wpAnyH_take (i := 1) (oi := _) (v := ?_) rfl (by kernel_rfl) (by kernel_rfl) (by kernel_rfl) (fun _ _ _ h => h) (Or.inl ⟨by rfl, ?_⟩) (by assumption) ?_
    rotate_left 1
    · (intro w hSw; (try dsimp only at hSw); go_simp; first | done | with_reducible rfl)
    try simp only [Act.put]
    refine wpAnyH_take (i := 4) (oi := _) (v := ?_) rfl (by kernel_rfl) (by kernel_rfl) (by kernel_rfl) (fun _ _ _ h => h) (Or.inl ⟨by rfl, ?_⟩) (by assumption) ?_
    rotate_left 1
    · (intro w hSw; (try dsimp only at hSw); go_simp; first | done | with_reducible rfl)
    try simp only [Act.put]
    refine wpAnyH_take (i := 5) (oi := _) (v := ?_) rfl (by kernel_rfl) (by kernel_rfl) (by kernel_rfl) (fun _ _ _ h => h) (Or.inl ⟨by rfl, ?_⟩) (by assumption) ?_
    rotate_left 1
    · (intro w hSw; (try dsimp only at hSw); go_simp; first | done | with_reducible rfl)
    try simp only [Act.put]
    refine wpAnyH_ready (rs := [2, 6, 8, 9]) (by kernel_rfl) (by simp) ?_
    refine (AllReadyH.cons (o := _) rfl (fun K hK => ?_) (AllReadyH.cons (o := _) rfl (fun K hK => ?_) (AllReadyH.cons (o := _) rfl (fun K hK => ?_) (AllReadyH.cons (o := _) rfl (fun K hK => ?_) AllReadyH.nil))))
    · go_simp
      refine hK.out _ _ ?_ (fun hHeld' => ?_)
      · exact HS.out _ (Keep.alloc (And.left hHeld) _)
      clear hK K hHeld
      have hHeld := hHeld'
      clear hHeld'
      have HL' := Lib.hid HL.out.alloc2
      clear HL
      have HL := HL'
      clear HL'
      generalize World.alloc X0 _ = X1 at *
      generalize X0.heap.size = m2 at *
      try simp only [Act.put, List.setIfInBounds_toArray, List.set_cons_zero, List.set_cons_succ]
      refine wpAnyH_take (i := 3) (oi := _) (v := ?_) rfl (by kernel_rfl) (by kernel_rfl) (by kernel_rfl) (fun _ _ _ h => h) (Or.inl ⟨by rfl, ?_⟩) (by assumption) ?_
      rotate_left 1
      · (intro w hSw; (try dsimp only at hSw); go_simp; first | done | with_reducible rfl)
      try simp only [Act.put, List.setIfInBounds_toArray]
      refine wpAnyH_ready (rs := [6, 8, 9]) (by kernel_rfl) (by simp) ?_
      refine (AllReadyH.cons (o := _) rfl (fun K hK => ?_) (AllReadyH.cons (o := _) rfl (fun K hK => ?_) (AllReadyH.cons (o := _) rfl (fun K hK => ?_) AllReadyH.nil)))
      · go_simp
        refine hK.out _ _ ?_ (fun hHeld' => ?_)
        · exact HS.out _ (Keep.alloc (And.left hHeld) _)
        clear hK K hHeld
        have hHeld := hHeld'
        clear hHeld'
        have HL' := Lib.hid HL.out.alloc6
        clear HL
        have HL := HL'
        clear HL'
        generalize World.alloc X1 _ = X2 at *
        generalize X1.heap.size = m6 at *
        try simp only [Act.put, List.setIfInBounds_toArray, List.set_cons_zero, List.set_cons_succ]
        refine wpAnyH_take (i := 7) (oi := _) (v := ?_) rfl (by kernel_rfl) (by kernel_rfl) (by kernel_rfl) (fun _ _ _ h => h) (Or.inl ⟨by rfl, ?_⟩) (by assumption) ?_
        rotate_left 1
        · (intro w hSw; (try dsimp only at hSw); go_simp; first | done | with_reducible rfl)
        try simp only [Act.put, List.setIfInBounds_toArray]
        refine wpAnyH_ready (rs := [8, 9]) (by kernel_rfl) (by simp) ?_
        refine (AllReadyH.cons (o := _) rfl (fun K hK => ?_) (AllReadyH.cons (o := _) rfl (fun K hK => ?_) AllReadyH.nil))
        · go_simp
          refine hK.out _ _ ?_ (fun hHeld' => ?_)
          · exact HS.out _ (Keep.alloc (And.left hHeld) _)
          clear hK K hHeld
          have hHeld := hHeld'
          clear hHeld'
          have HL' := Lib.hid HL.out.alloc8
          clear HL
          have HL := HL'
          clear HL'
          generalize World.alloc X2 _ = X3 at *
          generalize X2.heap.size = m8 at *
          try simp only [Act.put, List.setIfInBounds_toArray, List.set_cons_zero, List.set_cons_succ]
          refine wpAnyH_ready (rs := [9]) (by kernel_rfl) (by simp) ?_
          refine (AllReadyH.cons (o := _) rfl (fun K hK => ?_) AllReadyH.nil)
          go_simp
          refine hK.out _ _ ?_ (fun hHeld' => ?_)
          · exact HS.out _ (Keep.alloc (And.left hHeld) _)
          clear hK K hHeld
          have hHeld := hHeld'
          clear hHeld'
          have HL' := Lib.hid HL.out.alloc9
          clear HL
          have HL := HL'
          clear HL'
          generalize World.alloc X3 _ = X4 at *
          generalize X3.heap.size = m9 at *
          try simp only [Act.put, List.setIfInBounds_toArray, List.set_cons_zero, List.set_cons_succ]
          refine wpAnyH_ready (rs := [10]) (by kernel_rfl) (by simp) ?_
          refine (AllReadyH.cons (o := _) rfl (fun K hK => ?_) AllReadyH.nil)
          obtain ⟨⟨z0, z1, z2, z3, z4, z5, z6, z7⟩, ⟨f0, f1, f2, f3, f4, f5, f6, f7⟩⟩ := cells8 (HL.out.b8 m8 rfl).1
          go_simp
          clear z0 z1 z2 z3 z4 z5 z6 z7 f0 f1 f2 f3 f4 f5 f6 f7
          refine hK.out _ _ ?_ (fun hHeld' => ?_)
          · exact HS.out _ (kput_keep (And.left hHeld) (HL.out.b8 m8 rfl).2 4 m2)
          clear hK K hHeld
          have hHeld := hHeld'
          clear hHeld'
          have HL' := HL.out.put8_
          unfold kput put8 at HL'
          clear HL
          have HL := Lib.hid HL'
          clear HL'
          generalize World.setCell _ _ _ = X5 at *
          try simp only [Act.put, List.setIfInBounds_toArray, List.set_cons_zero, List.set_cons_succ]
          refine wpAnyH_ready (rs := [11]) (by kernel_rfl) (by simp) ?_
          refine (AllReadyH.cons (o := _) rfl (fun K hK => ?_) AllReadyH.nil)
          obtain ⟨⟨z0, z1, z2, z3, z4, z5, z6, z7⟩, ⟨f0, f1, f2, f3, f4, f5, f6, f7⟩⟩ := cells8 (HL.out.b9 m9 rfl).1
          go_simp
          clear z0 z1 z2 z3 z4 z5 z6 z7 f0 f1 f2 f3 f4 f5 f6 f7
          refine hK.out _ _ ?_ (fun hHeld' => ?_)
          · exact HS.out _ (kput_keep (And.left hHeld) (HL.out.b9 m9 rfl).2 3 m6)
          clear hK K hHeld
          have hHeld := hHeld'
          clear hHeld'
          have HL' := HL.out.put9_
          unfold kput put8 at HL'
          clear HL
          have HL := Lib.hid HL'
          clear HL'
          generalize World.setCell _ _ _ = X6 at *
          try simp only [Act.put, List.setIfInBounds_toArray, List.set_cons_zero, List.set_cons_succ]
          refine wpAnyH_done (by kernel_rfl) ?_ _
          refine NoPanic.normal ?_
          have HPR := Lib.hid (HL.out.par)
          clear hHeld HL
          go_wp2_with fail
          go_meet
          case rel => exact ⟨m8, m9, m2, m6, rfl, rfl, HPR.out⟩
        · go_simp
          refine hK.out _ _ ?_ (fun hHeld' => ?_)
          · exact HS.out _ (Keep.alloc (And.left hHeld) _)
          clear hK K hHeld
          have hHeld := hHeld'
          clear hHeld'
          have HL' := Lib.hid HL.out.alloc9
          clear HL
          have HL := HL'
          clear HL'
          generalize World.alloc X2 _ = X3 at *
          generalize X2.heap.size = m9 at *
          try simp only [Act.put, List.setIfInBounds_toArray, List.set_cons_zero, List.set_cons_succ]
          refine wpAnyH_ready (rs := [8]) (by kernel_rfl) (by simp) ?_
          refine (AllReadyH.cons (o := _) rfl (fun K hK => ?_) AllReadyH.nil)
          go_simp
          refine hK.out _ _ ?_ (fun hHeld' => ?_)
          · exact HS.out _ (Keep.alloc (And.left hHeld) _)
          clear hK K hHeld
          have hHeld := hHeld'
          clear hHeld'
          have HL' := Lib.hid HL.out.alloc8
          clear HL
          have HL := HL'
          clear HL'
          generalize World.alloc X3 _ = X4 at *
          generalize X3.heap.size = m8 at *
          try simp only [Act.put, List.setIfInBounds_toArray, List.set_cons_zero, List.set_cons_succ]
          refine wpAnyH_ready (rs := [10]) (by kernel_rfl) (by simp) ?_
          refine (AllReadyH.cons (o := _) rfl (fun K hK => ?_) AllReadyH.nil)
          obtain ⟨⟨z0, z1, z2, z3, z4, z5, z6, z7⟩, ⟨f0, f1, f2, f3, f4, f5, f6, f7⟩⟩ := cells8 (HL.out.b8 m8 rfl).1
          go_simp
          clear z0 z1 z2 z3 z4 z5 z6 z7 f0 f1 f2 f3 f4 f5 f6 f7
          refine hK.out _ _ ?_ (fun hHeld' => ?_)
          · exact HS.out _ (kput_keep (And.left hHeld) (HL.out.b8 m8 rfl).2 4 m2)
          clear hK K hHeld
          have hHeld := hHeld'
          clear hHeld'
          have HL' := HL.out.put8_
          unfold kput put8 at HL'
          clear HL
          have HL := Lib.hid HL'
          clear HL'
          generalize World.setCell _ _ _ = X5 at *
          try simp only [Act.put, List.setIfInBounds_toArray, List.set_cons_zero, List.set_cons_succ]
          refine wpAnyH_ready (rs := [11]) (by kernel_rfl) (by simp) ?_
          refine (AllReadyH.cons (o := _) rfl (fun K hK => ?_) AllReadyH.nil)
          obtain ⟨⟨z0, z1, z2, z3, z4, z5, z6, z7⟩, ⟨f0, f1, f2, f3, f4, f5, f6, f7⟩⟩ := cells8 (HL.out.b9 m9 rfl).1
          go_simp
          clear z0 z1 z2 z3 z4 z5 z6 z7 f0 f1 f2 f3 f4 f5 f6 f7
          refine hK.out _ _ ?_ (fun hHeld' => ?_)
          · exact HS.out _ (kput_keep (And.left hHeld) (HL.out.b9 m9 rfl).2 3 m6)
          clear hK K hHeld
          have hHeld := hHeld'
          clear hHeld'
          have HL' := HL.out.put9_
          unfold kput put8 at HL'
          clear HL
          have HL := Lib.hid HL'
          clear HL'
          generalize World.setCell _ _ _ = X6 at *
          try simp only [Act.put, List.setIfInBounds_toArray, List.set_cons_zero, List.set_cons_succ]
          refine wpAnyH_done (by kernel_rfl) ?_ _
          refine NoPanic.normal ?_
          have HPR := Lib.hid (HL.out.par)
          clear hHeld HL
          go_wp2_with fail
          go_meet
          case rel => exact ⟨m8, m9, m2, m6, rfl, rfl, HPR.out⟩
      · go_simp
        refine hK.out _ _ ?_ (fun hHeld' => ?_)
        · exact HS.out _ (Keep.alloc (And.left hHeld) _)
        clear hK K hHeld
        have hHeld := hHeld'
        clear hHeld'
        have HL' := Lib.hid HL.out.alloc8
        clear HL
        have HL := HL'
        clear HL'
        generalize World.alloc X1 _ = X2 at *
        generalize X1.heap.size = m8 at *
        try simp only [Act.put, List.setIfInBounds_toArray, List.set_cons_zero, List.set_cons_succ]
        refine wpAnyH_ready (rs := [6, 9]) (by kernel_rfl) (by simp) ?_
        refine (AllReadyH.cons (o := _) rfl (fun K hK => ?_) (AllReadyH.cons (o := _) rfl (fun K hK => ?_) AllReadyH.nil))
        · go_simp
          refine hK.out _ _ ?_ (fun hHeld' => ?_)
          · exact HS.out _ (Keep.alloc (And.left hHeld) _)
          clear hK K hHeld
          have hHeld := hHeld'
          clear hHeld'
          have HL' := Lib.hid HL.out.alloc6
          clear HL
          have HL := HL'
          clear HL'
          generalize World.alloc X2 _ = X3 at *
          generalize X2.heap.size = m6 at *
          try simp only [Act.put, List.setIfInBounds_toArray, List.set_cons_zero, List.set_cons_succ]
          refine wpAnyH_take (i := 7) (oi := _) (v := ?_) rfl (by kernel_rfl) (by kernel_rfl) (by kernel_rfl) (fun _ _ _ h => h) (Or.inl ⟨by rfl, ?_⟩) (by assumption) ?_
          rotate_left 1
          · (intro w hSw; (try dsimp only at hSw); go_simp; first | done | with_reducible rfl)
          try simp only [Act.put, List.setIfInBounds_toArray]
          refine wpAnyH_ready (rs := [9]) (by kernel_rfl) (by simp) ?_
          refine (AllReadyH.cons (o := _) rfl (fun K hK => ?_) AllReadyH.nil)
          go_simp
          refine hK.out _ _ ?_ (fun hHeld' => ?_)
          · exact HS.out _ (Keep.alloc (And.left hHeld) _)
          clear hK K hHeld
          have hHeld := hHeld'
          clear hHeld'
          have HL' := Lib.hid HL.out.alloc9
          clear HL
          have HL := HL'
          clear HL'
          generalize World.alloc X3 _ = X4 at *
          generalize X3.heap.size = m9 at *
          try simp only [Act.put, List.setIfInBounds_toArray, List.set_cons_zero, List.set_cons_succ]
          refine wpAnyH_ready (rs := [10]) (by kernel_rfl) (by simp) ?_
          refine (AllReadyH.cons (o := _) rfl (fun K hK => ?_) AllReadyH.nil)
          obtain ⟨⟨z0, z1, z2, z3, z4, z5, z6, z7⟩, ⟨f0, f1, f2, f3, f4, f5, f6, f7⟩⟩ := cells8 (HL.out.b8 m8 rfl).1
          go_simp
          clear z0 z1 z2 z3 z4 z5 z6 z7 f0 f1 f2 f3 f4 f5 f6 f7
          refine hK.out _ _ ?_ (fun hHeld' => ?_)
          · exact HS.out _ (kput_keep (And.left hHeld) (HL.out.b8 m8 rfl).2 4 m2)
          clear hK K hHeld
          have hHeld := hHeld'
          clear hHeld'
          have HL' := HL.out.put8_
          unfold kput put8 at HL'
          clear HL
          have HL := Lib.hid HL'
          clear HL'
          generalize World.setCell _ _ _ = X5 at *
          try simp only [Act.put, List.setIfInBounds_toArray, List.set_cons_zero, List.set_cons_succ]
          refine wpAnyH_ready (rs := [11]) (by kernel_rfl) (by simp) ?_
          refine (AllReadyH.cons (o := _) rfl (fun K hK => ?_) AllReadyH.nil)
          obtain ⟨⟨z0, z1, z2, z3, z4, z5, z6, z7⟩, ⟨f0, f1, f2, f3, f4, f5, f6, f7⟩⟩ := cells8 (HL.out.b9 m9 rfl).1
          go_simp
          clear z0 z1 z2 z3 z4 z5 z6 z7 f0 f1 f2 f3 f4 f5 f6 f7
          refine hK.out _ _ ?_ (fun hHeld' => ?_)
          · exact HS.out _ (kput_keep (And.left hHeld) (HL.out.b9 m9 rfl).2 3 m6)
          clear hK K hHeld
          have hHeld := hHeld'
          clear hHeld'
          have HL' := HL.out.put9_
          unfold kput put8 at HL'
          clear HL
          have HL := Lib.hid HL'
          clear HL'
          generalize World.setCell _ _ _ = X6 at *
          try simp only [Act.put, List.setIfInBounds_toArray, List.set_cons_zero, List.set_cons_succ]
          refine wpAnyH_done (by kernel_rfl) ?_ _
          refine NoPanic.normal ?_
          have HPR := Lib.hid (HL.out.par)
          clear hHeld HL
          go_wp2_with fail
          go_meet
          case rel => exact ⟨m8, m9, m2, m6, rfl, rfl, HPR.out⟩
        · go_simp
          refine hK.out _ _ ?_ (fun hHeld' => ?_)
          · exact HS.out _ (Keep.alloc (And.left hHeld) _)
          clear hK K hHeld
          have hHeld := hHeld'
          clear hHeld'
          have HL' := Lib.hid HL.out.alloc9
          clear HL
          have HL := HL'
          clear HL'
          generalize World.alloc X2 _ = X3 at *
          generalize X2.heap.size = m9 at *
          try simp only [Act.put, List.setIfInBounds_toArray, List.set_cons_zero, List.set_cons_succ]
          refine wpAnyH_ready (rs := [6, 10]) (by kernel_rfl) (by simp) ?_
          refine (AllReadyH.cons (o := _) rfl (fun K hK => ?_) (AllReadyH.cons (o := _) rfl (fun K hK => ?_) AllReadyH.nil))
          · go_simp
            refine hK.out _ _ ?_ (fun hHeld' => ?_)
            · exact HS.out _ (Keep.alloc (And.left hHeld) _)
            clear hK K hHeld
            have hHeld := hHeld'
            clear hHeld'
            have HL' := Lib.hid HL.out.alloc6
            clear HL
            have HL := HL'
            clear HL'
            generalize World.alloc X3 _ = X4 at *
            generalize X3.heap.size = m6 at *
            try simp only [Act.put, List.setIfInBounds_toArray, List.set_cons_zero, List.set_cons_succ]
            refine wpAnyH_take (i := 7) (oi := _) (v := ?_) rfl (by kernel_rfl) (by kernel_rfl) (by kernel_rfl) (fun _ _ _ h => h) (Or.inl ⟨by rfl, ?_⟩) (by assumption) ?_
            rotate_left 1
            · (intro w hSw; (try dsimp only at hSw); go_simp; first | done | with_reducible rfl)
            try simp only [Act.put, List.setIfInBounds_toArray]
            refine wpAnyH_ready (rs := [10]) (by kernel_rfl) (by simp) ?_
            refine (AllReadyH.cons (o := _) rfl (fun K hK => ?_) AllReadyH.nil)
            obtain ⟨⟨z0, z1, z2, z3, z4, z5, z6, z7⟩, ⟨f0, f1, f2, f3, f4, f5, f6, f7⟩⟩ := cells8 (HL.out.b8 m8 rfl).1
            go_simp
            clear z0 z1 z2 z3 z4 z5 z6 z7 f0 f1 f2 f3 f4 f5 f6 f7
            refine hK.out _ _ ?_ (fun hHeld' => ?_)
            · exact HS.out _ (kput_keep (And.left hHeld) (HL.out.b8 m8 rfl).2 4 m2)
            clear hK K hHeld
            have hHeld := hHeld'
            clear hHeld'
            have HL' := HL.out.put8_
            unfold kput put8 at HL'
            clear HL
            have HL := Lib.hid HL'
            clear HL'
            generalize World.setCell _ _ _ = X5 at *
            try simp only [Act.put, List.setIfInBounds_toArray, List.set_cons_zero, List.set_cons_succ]
            refine wpAnyH_ready (rs := [11]) (by kernel_rfl) (by simp) ?_
            refine (AllReadyH.cons (o := _) rfl (fun K hK => ?_) AllReadyH.nil)
            obtain ⟨⟨z0, z1, z2, z3, z4, z5, z6, z7⟩, ⟨f0, f1, f2, f3, f4, f5, f6, f7⟩⟩ := cells8 (HL.out.b9 m9 rfl).1
            go_simp
            clear z0 z1 z2 z3 z4 z5 z6 z7 f0 f1 f2 f3 f4 f5 f6 f7
            refine hK.out _ _ ?_ (fun hHeld' => ?_)
            · exact HS.out _ (kput_keep (And.left hHeld) (HL.out.b9 m9 rfl).2 3 m6)
            clear hK K hHeld
            have hHeld := hHeld'
            clear hHeld'
            have HL' := HL.out.put9_
            unfold kput put8 at HL'
            clear HL
            have HL := Lib.hid HL'
            clear HL'
            generalize World.setCell _ _ _ = X6 at *
            try simp only [Act.put, List.setIfInBounds_toArray, List.set_cons_zero, List.set_cons_succ]
            refine wpAnyH_done (by kernel_rfl) ?_ _
            refine NoPanic.normal ?_
            have HPR := Lib.hid (HL.out.par)
            clear hHeld HL
            go_wp2_with fail
            go_meet
            case rel => exact ⟨m8, m9, m2, m6, rfl, rfl, HPR.out⟩
          · obtain ⟨⟨z0, z1, z2, z3, z4, z5, z6, z7⟩, ⟨f0, f1, f2, f3, f4, f5, f6, f7⟩⟩ := cells8 (HL.out.b8 m8 rfl).1
            go_simp
            clear z0 z1 z2 z3 z4 z5 z6 z7 f0 f1 f2 f3 f4 f5 f6 f7
            refine hK.out _ _ ?_ (fun hHeld' => ?_)
            · exact HS.out _ (kput_keep (And.left hHeld) (HL.out.b8 m8 rfl).2 4 m2)
            clear hK K hHeld
            have hHeld := hHeld'
            clear hHeld'
            have HL' := HL.out.put8_
            unfold kput put8 at HL'
            clear HL
            have HL := Lib.hid HL'
            clear HL'
            generalize World.setCell _ _ _ = X4 at *
            try simp only [Act.put, List.setIfInBounds_toArray, List.set_cons_zero, List.set_cons_succ]
            refine wpAnyH_ready (rs := [6]) (by kernel_rfl) (by simp) ?_
            refine (AllReadyH.cons (o := _) rfl (fun K hK => ?_) AllReadyH.nil)
            go_simp
            refine hK.out _ _ ?_ (fun hHeld' => ?_)
            · exact HS.out _ (Keep.alloc (And.left hHeld) _)
            clear hK K hHeld
            have hHeld := hHeld'
            clear hHeld'
            have HL' := Lib.hid HL.out.alloc6
            clear HL
            have HL := HL'
            clear HL'
            generalize World.alloc X4 _ = X5 at *
            generalize X4.heap.size = m6 at *
            try simp only [Act.put, List.setIfInBounds_toArray, List.set_cons_zero, List.set_cons_succ]
            refine wpAnyH_take (i := 7) (oi := _) (v := ?_) rfl (by kernel_rfl) (by kernel_rfl) (by kernel_rfl) (fun _ _ _ h => h) (Or.inl ⟨by rfl, ?_⟩) (by assumption) ?_
            rotate_left 1
            · (intro w hSw; (try dsimp only at hSw); go_simp; first | done | with_reducible rfl)
            try simp only [Act.put, List.setIfInBounds_toArray]
            refine wpAnyH_ready (rs := [11]) (by kernel_rfl) (by simp) ?_
            refine (AllReadyH.cons (o := _) rfl (fun K hK => ?_) AllReadyH.nil)
            obtain ⟨⟨z0, z1, z2, z3, z4, z5, z6, z7⟩, ⟨f0, f1, f2, f3, f4, f5, f6, f7⟩⟩ := cells8 (HL.out.b9 m9 rfl).1
            go_simp
            clear z0 z1 z2 z3 z4 z5 z6 z7 f0 f1 f2 f3 f4 f5 f6 f7
            refine hK.out _ _ ?_ (fun hHeld' => ?_)
            · exact HS.out _ (kput_keep (And.left hHeld) (HL.out.b9 m9 rfl).2 3 m6)
            clear hK K hHeld
            have hHeld := hHeld'
            clear hHeld'
            have HL' := HL.out.put9_
            unfold kput put8 at HL'
            clear HL
            have HL := Lib.hid HL'
            clear HL'
            generalize World.setCell _ _ _ = X6 at *
            try simp only [Act.put, List.setIfInBounds_toArray, List.set_cons_zero, List.set_cons_succ]
            refine wpAnyH_done (by kernel_rfl) ?_ _
            refine NoPanic.normal ?_
            have HPR := Lib.hid (HL.out.par)
            clear hHeld HL
            go_wp2_with fail
            go_meet
            case rel => exact ⟨m8, m9, m2, m6, rfl, rfl, HPR.out⟩
      · go_simp
        refine hK.out _ _ ?_ (fun hHeld' => ?_)
        · exact HS.out _ (Keep.alloc (And.left hHeld) _)
        clear hK K hHeld
        have hHeld := hHeld'
        clear hHeld'
        have HL' := Lib.hid HL.out.alloc9
        clear HL
        have HL := HL'
        clear HL'
        generalize World.alloc X1 _ = X2 at *
        generalize X1.heap.size = m9 at *
        try simp only [Act.put, List.setIfInBounds_toArray, List.set_cons_zero, List.set_cons_succ]
        refine wpAnyH_ready (rs := [6, 8]) (by kernel_rfl) (by simp) ?_
        refine (AllReadyH.cons (o := _) rfl (fun K hK => ?_) (AllReadyH.cons (o := _) rfl (fun K hK => ?_) AllReadyH.nil))
        · go_simp
          refine hK.out _ _ ?_ (fun hHeld' => ?_)
          · exact HS.out _ (Keep.alloc (And.left hHeld) _)
          clear hK K hHeld
          have hHeld := hHeld'
          clear hHeld'
          have HL' := Lib.hid HL.out.alloc6
          clear HL
          have HL := HL'
          clear HL'
          generalize World.alloc X2 _ = X3 at *
          generalize X2.heap.size = m6 at *
          try simp only [Act.put, List.setIfInBounds_toArray, List.set_cons_zero, List.set_cons_succ]
          refine wpAnyH_take (i := 7) (oi := _) (v := ?_) rfl (by kernel_rfl) (by kernel_rfl) (by kernel_rfl) (fun _ _ _ h => h) (Or.inl ⟨by rfl, ?_⟩) (by assumption) ?_
          rotate_left 1
          · (intro w hSw; (try dsimp only at hSw); go_simp; first | done | with_reducible rfl)
          try simp only [Act.put, List.setIfInBounds_toArray]
          refine wpAnyH_ready (rs := [8]) (by kernel_rfl) (by simp) ?_
          refine (AllReadyH.cons (o := _) rfl (fun K hK => ?_) AllReadyH.nil)
          go_simp
          refine hK.out _ _ ?_ (fun hHeld' => ?_)
          · exact HS.out _ (Keep.alloc (And.left hHeld) _)
          clear hK K hHeld
          have hHeld := hHeld'
          clear hHeld'
          have HL' := Lib.hid HL.out.alloc8
          clear HL
          have HL := HL'
          clear HL'
          generalize World.alloc X3 _ = X4 at *
          generalize X3.heap.size = m8 at *
          try simp only [Act.put, List.setIfInBounds_toArray, List.set_cons_zero, List.set_cons_succ]
          refine wpAnyH_ready (rs := [10]) (by kernel_rfl) (by simp) ?_
          refine (AllReadyH.cons (o := _) rfl (fun K hK => ?_) AllReadyH.nil)
          obtain ⟨⟨z0, z1, z2, z3, z4, z5, z6, z7⟩, ⟨f0, f1, f2, f3, f4, f5, f6, f7⟩⟩ := cells8 (HL.out.b8 m8 rfl).1
          go_simp
          clear z0 z1 z2 z3 z4 z5 z6 z7 f0 f1 f2 f3 f4 f5 f6 f7
          refine hK.out _ _ ?_ (fun hHeld' => ?_)
          · exact HS.out _ (kput_keep (And.left hHeld) (HL.out.b8 m8 rfl).2 4 m2)
          clear hK K hHeld
          have hHeld := hHeld'
          clear hHeld'
          have HL' := HL.out.put8_
          unfold kput put8 at HL'
          clear HL
          have HL := Lib.hid HL'
          clear HL'
          generalize World.setCell _ _ _ = X5 at *
          try simp only [Act.put, List.setIfInBounds_toArray, List.set_cons_zero, List.set_cons_succ]
          refine wpAnyH_ready (rs := [11]) (by kernel_rfl) (by simp) ?_
          refine (AllReadyH.cons (o := _) rfl (fun K hK => ?_) AllReadyH.nil)
          obtain ⟨⟨z0, z1, z2, z3, z4, z5, z6, z7⟩, ⟨f0, f1, f2, f3, f4, f5, f6, f7⟩⟩ := cells8 (HL.out.b9 m9 rfl).1
          go_simp
          clear z0 z1 z2 z3 z4 z5 z6 z7 f0 f1 f2 f3 f4 f5 f6 f7
          refine hK.out _ _ ?_ (fun hHeld' => ?_)
          · exact HS.out _ (kput_keep (And.left hHeld) (HL.out.b9 m9 rfl).2 3 m6)
          clear hK K hHeld
          have hHeld := hHeld'
          clear hHeld'
          have HL' := HL.out.put9_
          unfold kput put8 at HL'
          clear HL
          have HL := Lib.hid HL'
          clear HL'
          generalize World.setCell _ _ _ = X6 at *
          try simp only [Act.put, List.setIfInBounds_toArray, List.set_cons_zero, List.set_cons_succ]
          refine wpAnyH_done (by kernel_rfl) ?_ _
          refine NoPanic.normal ?_
          have HPR := Lib.hid (HL.out.par)
          clear hHeld HL
          go_wp2_with fail
          go_meet
          case rel => exact ⟨m8, m9, m2, m6, rfl, rfl, HPR.out⟩
        · go_simp
          refine hK.out _ _ ?_ (fun hHeld' => ?_)
          · exact HS.out _ (Keep.alloc (And.left hHeld) _)
          clear hK K hHeld
          have hHeld := hHeld'
          clear hHeld'
          have HL' := Lib.hid HL.out.alloc8
          clear HL
          have HL := HL'
          clear HL'
          generalize World.alloc X2 _ = X3 at *
          generalize X2.heap.size = m8 at *
          try simp only [Act.put, List.setIfInBounds_toArray, List.set_cons_zero, List.set_cons_succ]
          refine wpAnyH_ready (rs := [6, 10]) (by kernel_rfl) (by simp) ?_
          refine (AllReadyH.cons (o := _) rfl (fun K hK => ?_) (AllReadyH.cons (o := _) rfl (fun K hK => ?_) AllReadyH.nil))
          · go_simp
            refine hK.out _ _ ?_ (fun hHeld' => ?_)
            · exact HS.out _ (Keep.alloc (And.left hHeld) _)
            clear hK K hHeld
            have hHeld := hHeld'
            clear hHeld'
            have HL' := Lib.hid HL.out.alloc6
            clear HL
            have HL := HL'
            clear HL'
            generalize World.alloc X3 _ = X4 at *
            generalize X3.heap.size = m6 at *
            try simp only [Act.put, List.setIfInBounds_toArray, List.set_cons_zero, List.set_cons_succ]
            refine wpAnyH_take (i := 7) (oi := _) (v := ?_) rfl (by kernel_rfl) (by kernel_rfl) (by kernel_rfl) (fun _ _ _ h => h) (Or.inl ⟨by rfl, ?_⟩) (by assumption) ?_
            rotate_left 1
            · (intro w hSw; (try dsimp only at hSw); go_simp; first | done | with_reducible rfl)
            try simp only [Act.put, List.setIfInBounds_toArray]
            refine wpAnyH_ready (rs := [10]) (by kernel_rfl) (by simp) ?_
            refine (AllReadyH.cons (o := _) rfl (fun K hK => ?_) AllReadyH.nil)
            obtain ⟨⟨z0, z1, z2, z3, z4, z5, z6, z7⟩, ⟨f0, f1, f2, f3, f4, f5, f6, f7⟩⟩ := cells8 (HL.out.b8 m8 rfl).1
            go_simp
            clear z0 z1 z2 z3 z4 z5 z6 z7 f0 f1 f2 f3 f4 f5 f6 f7
            refine hK.out _ _ ?_ (fun hHeld' => ?_)
            · exact HS.out _ (kput_keep (And.left hHeld) (HL.out.b8 m8 rfl).2 4 m2)
            clear hK K hHeld
            have hHeld := hHeld'
            clear hHeld'
            have HL' := HL.out.put8_
            unfold kput put8 at HL'
            clear HL
            have HL := Lib.hid HL'
            clear HL'
            generalize World.setCell _ _ _ = X5 at *
            try simp only [Act.put, List.setIfInBounds_toArray, List.set_cons_zero, List.set_cons_succ]
            refine wpAnyH_ready (rs := [11]) (by kernel_rfl) (by simp) ?_
            refine (AllReadyH.cons (o := _) rfl (fun K hK => ?_) AllReadyH.nil)
            obtain ⟨⟨z0, z1, z2, z3, z4, z5, z6, z7⟩, ⟨f0, f1, f2, f3, f4, f5, f6, f7⟩⟩ := cells8 (HL.out.b9 m9 rfl).1
            go_simp
            clear z0 z1 z2 z3 z4 z5 z6 z7 f0 f1 f2 f3 f4 f5 f6 f7
            refine hK.out _ _ ?_ (fun hHeld' => ?_)
            · exact HS.out _ (kput_keep (And.left hHeld) (HL.out.b9 m9 rfl).2 3 m6)
            clear hK K hHeld
            have hHeld := hHeld'
            clear hHeld'
            have HL' := HL.out.put9_
            unfold kput put8 at HL'
            clear HL
            have HL := Lib.hid HL'
            clear HL'
            generalize World.setCell _ _ _ = X6 at *
            try simp only [Act.put, List.setIfInBounds_toArray, List.set_cons_zero, List.set_cons_succ]
            refine wpAnyH_done (by kernel_rfl) ?_ _
            refine NoPanic.normal ?_
            have HPR := Lib.hid (HL.out.par)
            clear hHeld HL
            go_wp2_with fail
            go_meet
            case rel => exact ⟨m8, m9, m2, m6, rfl, rfl, HPR.out⟩
          · obtain ⟨⟨z0, z1, z2, z3, z4, z5, z6, z7⟩, ⟨f0, f1, f2, f3, f4, f5, f6, f7⟩⟩ := cells8 (HL.out.b8 m8 rfl).1
            go_simp
            clear z0 z1 z2 z3 z4 z5 z6 z7 f0 f1 f2 f3 f4 f5 f6 f7
            refine hK.out _ _ ?_ (fun hHeld' => ?_)
            · exact HS.out _ (kput_keep (And.left hHeld) (HL.out.b8 m8 rfl).2 4 m2)
            clear hK K hHeld
            have hHeld := hHeld'
            clear hHeld'
            have HL' := HL.out.put8_
            unfold kput put8 at HL'
            clear HL
            have HL := Lib.hid HL'
            clear HL'
            generalize World.setCell _ _ _ = X4 at *
            try simp only [Act.put, List.setIfInBounds_toArray, List.set_cons_zero, List.set_cons_succ]
            refine wpAnyH_ready (rs := [6]) (by kernel_rfl) (by simp) ?_
            refine (AllReadyH.cons (o := _) rfl (fun K hK => ?_) AllReadyH.nil)
            go_simp
            refine hK.out _ _ ?_ (fun hHeld' => ?_)
            · exact HS.out _ (Keep.alloc (And.left hHeld) _)
            clear hK K hHeld
            have hHeld := hHeld'
            clear hHeld'
            have HL' := Lib.hid HL.out.alloc6
            clear HL
            have HL := HL'
            clear HL'
            generalize World.alloc X4 _ = X5 at *
            generalize X4.heap.size = m6 at *
            try simp only [Act.put, List.setIfInBounds_toArray, List.set_cons_zero, List.set_cons_succ]
            refine wpAnyH_take (i := 7) (oi := _) (v := ?_) rfl (by kernel_rfl) (by kernel_rfl) (by kernel_rfl) (fun _ _ _ h => h) (Or.inl ⟨by rfl, ?_⟩) (by assumption) ?_
            rotate_left 1
            · (intro w hSw; (try dsimp only at hSw); go_simp; first | done | with_reducible rfl)
            try simp only [Act.put, List.setIfInBounds_toArray]
            refine wpAnyH_ready (rs := [11]) (by kernel_rfl) (by simp) ?_
            refine (AllReadyH.cons (o := _) rfl (fun K hK => ?_) AllReadyH.nil)
            obtain ⟨⟨z0, z1, z2, z3, z4, z5, z6, z7⟩, ⟨f0, f1, f2, f3, f4, f5, f6, f7⟩⟩ := cells8 (HL.out.b9 m9 rfl).1
            go_simp
            clear z0 z1 z2 z3 z4 z5 z6 z7 f0 f1 f2 f3 f4 f5 f6 f7
            refine hK.out _ _ ?_ (fun hHeld' => ?_)
            · exact HS.out _ (kput_keep (And.left hHeld) (HL.out.b9 m9 rfl).2 3 m6)
            clear hK K hHeld
            have hHeld := hHeld'
            clear hHeld'
            have HL' := HL.out.put9_
            unfold kput put8 at HL'
            clear HL
            have HL := Lib.hid HL'
            clear HL'
            generalize World.setCell _ _ _ = X6 at *
            try simp only [Act.put, List.setIfInBounds_toArray, List.set_cons_zero, List.set_cons_succ]
            refine wpAnyH_done (by kernel_rfl) ?_ _
            refine NoPanic.normal ?_
            have HPR := Lib.hid (HL.out.par)
            clear hHeld HL
            go_wp2_with fail
            go_meet
            case rel => exact ⟨m8, m9, m2, m6, rfl, rfl, HPR.out⟩
    · go_simp
      refine hK.out _ _ ?_ (fun hHeld' => ?_)
      · exact HS.out _ (Keep.alloc (And.left hHeld) _)
      clear hK K hHeld
      have hHeld := hHeld'
      clear hHeld'
      have HL' := Lib.hid HL.out.alloc6
      clear HL
      have HL := HL'
      clear HL'
      generalize World.alloc X0 _ = X1 at *
      generalize X0.heap.size = m6 at *
      try simp only [Act.put, List.setIfInBounds_toArray, List.set_cons_zero, List.set_cons_succ]
      refine wpAnyH_take (i := 7) (oi := _) (v := ?_) rfl (by kernel_rfl) (by kernel_rfl) (by kernel_rfl) (fun _ _ _ h => h) (Or.inl ⟨by rfl, ?_⟩) (by assumption) ?_
      rotate_left 1
      · (intro w hSw; (try dsimp only at hSw); go_simp; first | done | with_reducible rfl)
      try simp only [Act.put, List.setIfInBounds_toArray]
      refine wpAnyH_ready (rs := [2, 8, 9]) (by kernel_rfl) (by simp) ?_
      refine (AllReadyH.cons (o := _) rfl (fun K hK => ?_) (AllReadyH.cons (o := _) rfl (fun K hK => ?_) (AllReadyH.cons (o := _) rfl (fun K hK => ?_) AllReadyH.nil)))
      · go_simp
        refine hK.out _ _ ?_ (fun hHeld' => ?_)
        · exact HS.out _ (Keep.alloc (And.left hHeld) _)
        clear hK K hHeld
        have hHeld := hHeld'
        clear hHeld'
        have HL' := Lib.hid HL.out.alloc2
        clear HL
        have HL := HL'
        clear HL'
        generalize World.alloc X1 _ = X2 at *
        generalize X1.heap.size = m2 at *
        try simp only [Act.put, List.setIfInBounds_toArray, List.set_cons_zero, List.set_cons_succ]
        refine wpAnyH_take (i := 3) (oi := _) (v := ?_) rfl (by kernel_rfl) (by kernel_rfl) (by kernel_rfl) (fun _ _ _ h => h) (Or.inl ⟨by rfl, ?_⟩) (by assumption) ?_
        rotate_left 1
        · (intro w hSw; (try dsimp only at hSw); go_simp; first | done | with_reducible rfl)
        try simp only [Act.put, List.setIfInBounds_toArray]
        refine wpAnyH_ready (rs := [8, 9]) (by kernel_rfl) (by simp) ?_
        refine (AllReadyH.cons (o := _) rfl (fun K hK => ?_) (AllReadyH.cons (o := _) rfl (fun K hK => ?_) AllReadyH.nil))
        · go_simp
          refine hK.out _ _ ?_ (fun hHeld' => ?_)
          · exact HS.out _ (Keep.alloc (And.left hHeld) _)
          clear hK K hHeld
          have hHeld := hHeld'
          clear hHeld'
          have HL' := Lib.hid HL.out.alloc8
          clear HL
          have HL := HL'
          clear HL'
          generalize World.alloc X2 _ = X3 at *
          generalize X2.heap.size = m8 at *
          try simp only [Act.put, List.setIfInBounds_toArray, List.set_cons_zero, List.set_cons_succ]
          refine wpAnyH_ready (rs := [9]) (by kernel_rfl) (by simp) ?_
          refine (AllReadyH.cons (o := _) rfl (fun K hK => ?_) AllReadyH.nil)
          go_simp
          refine hK.out _ _ ?_ (fun hHeld' => ?_)
          · exact HS.out _ (Keep.alloc (And.left hHeld) _)
          clear hK K hHeld
          have hHeld := hHeld'
          clear hHeld'
          have HL' := Lib.hid HL.out.alloc9
          clear HL
          have HL := HL'
          clear HL'
          generalize World.alloc X3 _ = X4 at *
          generalize X3.heap.size = m9 at *
          try simp only [Act.put, List.setIfInBounds_toArray, List.set_cons_zero, List.set_cons_succ]
          refine wpAnyH_ready (rs := [10]) (by kernel_rfl) (by simp) ?_
          refine (AllReadyH.cons (o := _) rfl (fun K hK => ?_) AllReadyH.nil)
          obtain ⟨⟨z0, z1, z2, z3, z4, z5, z6, z7⟩, ⟨f0, f1, f2, f3, f4, f5, f6, f7⟩⟩ := cells8 (HL.out.b8 m8 rfl).1
          go_simp
          clear z0 z1 z2 z3 z4 z5 z6 z7 f0 f1 f2 f3 f4 f5 f6 f7
          refine hK.out _ _ ?_ (fun hHeld' => ?_)
          · exact HS.out _ (kput_keep (And.left hHeld) (HL.out.b8 m8 rfl).2 4 m2)
          clear hK K hHeld
          have hHeld := hHeld'
          clear hHeld'
          have HL' := HL.out.put8_
          unfold kput put8 at HL'
          clear HL
          have HL := Lib.hid HL'
          clear HL'
          generalize World.setCell _ _ _ = X5 at *
          try simp only [Act.put, List.setIfInBounds_toArray, List.set_cons_zero, List.set_cons_succ]
          refine wpAnyH_ready (rs := [11]) (by kernel_rfl) (by simp) ?_
          refine (AllReadyH.cons (o := _) rfl (fun K hK => ?_) AllReadyH.nil)
          obtain ⟨⟨z0, z1, z2, z3, z4, z5, z6, z7⟩, ⟨f0, f1, f2, f3, f4, f5, f6, f7⟩⟩ := cells8 (HL.out.b9 m9 rfl).1
          go_simp
          clear z0 z1 z2 z3 z4 z5 z6 z7 f0 f1 f2 f3 f4 f5 f6 f7
          refine hK.out _ _ ?_ (fun hHeld' => ?_)
          · exact HS.out _ (kput_keep (And.left hHeld) (HL.out.b9 m9 rfl).2 3 m6)
          clear hK K hHeld
          have hHeld := hHeld'
          clear hHeld'
          have HL' := HL.out.put9_
          unfold kput put8 at HL'
          clear HL
          have HL := Lib.hid HL'
          clear HL'
          generalize World.setCell _ _ _ = X6 at *
          try simp only [Act.put, List.setIfInBounds_toArray, List.set_cons_zero, List.set_cons_succ]
          refine wpAnyH_done (by kernel_rfl) ?_ _
          refine NoPanic.normal ?_
          have HPR := Lib.hid (HL.out.par)
          clear hHeld HL
          go_wp2_with fail
          go_meet
          case rel => exact ⟨m8, m9, m2, m6, rfl, rfl, HPR.out⟩
        · go_simp
          refine hK.out _ _ ?_ (fun hHeld' => ?_)
          · exact HS.out _ (Keep.alloc (And.left hHeld) _)
          clear hK K hHeld
          have hHeld := hHeld'
          clear hHeld'
          have HL' := Lib.hid HL.out.alloc9
          clear HL
          have HL := HL'
          clear HL'
          generalize World.alloc X2 _ = X3 at *
          generalize X2.heap.size = m9 at *
          try simp only [Act.put, List.setIfInBounds_toArray, List.set_cons_zero, List.set_cons_succ]
          refine wpAnyH_ready (rs := [8]) (by kernel_rfl) (by simp) ?_
          refine (AllReadyH.cons (o := _) rfl (fun K hK => ?_) AllReadyH.nil)
          go_simp
          refine hK.out _ _ ?_ (fun hHeld' => ?_)
          · exact HS.out _ (Keep.alloc (And.left hHeld) _)
          clear hK K hHeld
          have hHeld := hHeld'
          clear hHeld'
          have HL' := Lib.hid HL.out.alloc8
          clear HL
          have HL := HL'
          clear HL'
          generalize World.alloc X3 _ = X4 at *
          generalize X3.heap.size = m8 at *
          try simp only [Act.put, List.setIfInBounds_toArray, List.set_cons_zero, List.set_cons_succ]
          refine wpAnyH_ready (rs := [10]) (by kernel_rfl) (by simp) ?_
          refine (AllReadyH.cons (o := _) rfl (fun K hK => ?_) AllReadyH.nil)
          obtain ⟨⟨z0, z1, z2, z3, z4, z5, z6, z7⟩, ⟨f0, f1, f2, f3, f4, f5, f6, f7⟩⟩ := cells8 (HL.out.b8 m8 rfl).1
          go_simp
          clear z0 z1 z2 z3 z4 z5 z6 z7 f0 f1 f2 f3 f4 f5 f6 f7
          refine hK.out _ _ ?_ (fun hHeld' => ?_)
          · exact HS.out _ (kput_keep (And.left hHeld) (HL.out.b8 m8 rfl).2 4 m2)
          clear hK K hHeld
          have hHeld := hHeld'
          clear hHeld'
          have HL' := HL.out.put8_
          unfold kput put8 at HL'
          clear HL
          have HL := Lib.hid HL'
          clear HL'
          generalize World.setCell _ _ _ = X5 at *
          try simp only [Act.put, List.setIfInBounds_toArray, List.set_cons_zero, List.set_cons_succ]
          refine wpAnyH_ready (rs := [11]) (by kernel_rfl) (by simp) ?_
          refine (AllReadyH.cons (o := _) rfl (fun K hK => ?_) AllReadyH.nil)
          obtain ⟨⟨z0, z1, z2, z3, z4, z5, z6, z7⟩, ⟨f0, f1, f2, f3, f4, f5, f6, f7⟩⟩ := cells8 (HL.out.b9 m9 rfl).1
          go_simp
          clear z0 z1 z2 z3 z4 z5 z6 z7 f0 f1 f2 f3 f4 f5 f6 f7
          refine hK.out _ _ ?_ (fun hHeld' => ?_)
          · exact HS.out _ (kput_keep (And.left hHeld) (HL.out.b9 m9 rfl).2 3 m6)
          clear hK K hHeld
          have hHeld := hHeld'
          clear hHeld'
          have HL' := HL.out.put9_
          unfold kput put8 at HL'
          clear HL
          have HL := Lib.hid HL'
          clear HL'
          generalize World.setCell _ _ _ = X6 at *
          try simp only [Act.put, List.setIfInBounds_toArray, List.set_cons_zero, List.set_cons_succ]
          refine wpAnyH_done (by kernel_rfl) ?_ _
          refine NoPanic.normal ?_
          have HPR := Lib.hid (HL.out.par)
          clear hHeld HL
          go_wp2_with fail
          go_meet
          case rel => exact ⟨m8, m9, m2, m6, rfl, rfl, HPR.out⟩
      · go_simp
        refine hK.out _ _ ?_ (fun hHeld' => ?_)
        · exact HS.out _ (Keep.alloc (And.left hHeld) _)
        clear hK K hHeld
        have hHeld := hHeld'
        clear hHeld'
        have HL' := Lib.hid HL.out.alloc8
        clear HL
        have HL := HL'
        clear HL'
        generalize World.alloc X1 _ = X2 at *
        generalize X1.heap.size = m8 at *
        try simp only [Act.put, List.setIfInBounds_toArray, List.set_cons_zero, List.set_cons_succ]
        refine wpAnyH_ready (rs := [2, 9]) (by kernel_rfl) (by simp) ?_
        refine (AllReadyH.cons (o := _) rfl (fun K hK => ?_) (AllReadyH.cons (o := _) rfl (fun K hK => ?_) AllReadyH.nil))
        · go_simp
          refine hK.out _ _ ?_ (fun hHeld' => ?_)
          · exact HS.out _ (Keep.alloc (And.left hHeld) _)
          clear hK K hHeld
          have hHeld := hHeld'
          clear hHeld'
          have HL' := Lib.hid HL.out.alloc2
          clear HL
          have HL := HL'
          clear HL'
          generalize World.alloc X2 _ = X3 at *
          generalize X2.heap.size = m2 at *
          try simp only [Act.put, List.setIfInBounds_toArray, List.set_cons_zero, List.set_cons_succ]
          refine wpAnyH_take (i := 3) (oi := _) (v := ?_) rfl (by kernel_rfl) (by kernel_rfl) (by kernel_rfl) (fun _ _ _ h => h) (Or.inl ⟨by rfl, ?_⟩) (by assumption) ?_
          rotate_left 1
          · (intro w hSw; (try dsimp only at hSw); go_simp; first | done | with_reducible rfl)
          try simp only [Act.put, List.setIfInBounds_toArray]
          refine wpAnyH_ready (rs := [9]) (by kernel_rfl) (by simp) ?_
          refine (AllReadyH.cons (o := _) rfl (fun K hK => ?_) AllReadyH.nil)
          go_simp
          refine hK.out _ _ ?_ (fun hHeld' => ?_)
          · exact HS.out _ (Keep.alloc (And.left hHeld) _)
          clear hK K hHeld
          have hHeld := hHeld'
          clear hHeld'
          have HL' := Lib.hid HL.out.alloc9
          clear HL
          have HL := HL'
          clear HL'
          generalize World.alloc X3 _ = X4 at *
          generalize X3.heap.size = m9 at *
          try simp only [Act.put, List.setIfInBounds_toArray, List.set_cons_zero, List.set_cons_succ]
          refine wpAnyH_ready (rs := [10]) (by kernel_rfl) (by simp) ?_
          refine (AllReadyH.cons (o := _) rfl (fun K hK => ?_) AllReadyH.nil)
          obtain ⟨⟨z0, z1, z2, z3, z4, z5, z6, z7⟩, ⟨f0, f1, f2, f3, f4, f5, f6, f7⟩⟩ := cells8 (HL.out.b8 m8 rfl).1
          go_simp
          clear z0 z1 z2 z3 z4 z5 z6 z7 f0 f1 f2 f3 f4 f5 f6 f7
          refine hK.out _ _ ?_ (fun hHeld' => ?_)
          · exact HS.out _ (kput_keep (And.left hHeld) (HL.out.b8 m8 rfl).2 4 m2)
          clear hK K hHeld
          have hHeld := hHeld'
          clear hHeld'
          have HL' := HL.out.put8_
          unfold kput put8 at HL'
          clear HL
          have HL := Lib.hid HL'
          clear HL'
          generalize World.setCell _ _ _ = X5 at *
          try simp only [Act.put, List.setIfInBounds_toArray, List.set_cons_zero, List.set_cons_succ]
          refine wpAnyH_ready (rs := [11]) (by kernel_rfl) (by simp) ?_
          refine (AllReadyH.cons (o := _) rfl (fun K hK => ?_) AllReadyH.nil)
          obtain ⟨⟨z0, z1, z2, z3, z4, z5, z6, z7⟩, ⟨f0, f1, f2, f3, f4, f5, f6, f7⟩⟩ := cells8 (HL.out.b9 m9 rfl).1
          go_simp
          clear z0 z1 z2 z3 z4 z5 z6 z7 f0 f1 f2 f3 f4 f5 f6 f7
          refine hK.out _ _ ?_ (fun hHeld' => ?_)
          · exact HS.out _ (kput_keep (And.left hHeld) (HL.out.b9 m9 rfl).2 3 m6)
          clear hK K hHeld
          have hHeld := hHeld'
          clear hHeld'
          have HL' := HL.out.put9_
          unfold kput put8 at HL'
          clear HL
          have HL := Lib.hid HL'
          clear HL'
          generalize World.setCell _ _ _ = X6 at *
          try simp only [Act.put, List.setIfInBounds_toArray, List.set_cons_zero, List.set_cons_succ]
          refine wpAnyH_done (by kernel_rfl) ?_ _
          refine NoPanic.normal ?_
          have HPR := Lib.hid (HL.out.par)
          clear hHeld HL
          go_wp2_with fail
          go_meet
          case rel => exact ⟨m8, m9, m2, m6, rfl, rfl, HPR.out⟩
        · go_simp
          refine hK.out _ _ ?_ (fun hHeld' => ?_)
          · exact HS.out _ (Keep.alloc (And.left hHeld) _)
          clear hK K hHeld
          have hHeld := hHeld'
          clear hHeld'
          have HL' := Lib.hid HL.out.alloc9
          clear HL
          have HL := HL'
          clear HL'
          generalize World.alloc X2 _ = X3 at *
          generalize X2.heap.size = m9 at *
          try simp only [Act.put, List.setIfInBounds_toArray, List.set_cons_zero, List.set_cons_succ]
          refine wpAnyH_ready (rs := [2]) (by kernel_rfl) (by simp) ?_
          refine (AllReadyH.cons (o := _) rfl (fun K hK => ?_) AllReadyH.nil)
          go_simp
          refine hK.out _ _ ?_ (fun hHeld' => ?_)
          · exact HS.out _ (Keep.alloc (And.left hHeld) _)
          clear hK K hHeld
          have hHeld := hHeld'
          clear hHeld'
          have HL' := Lib.hid HL.out.alloc2
          clear HL
          have HL := HL'
          clear HL'
          generalize World.alloc X3 _ = X4 at *
          generalize X3.heap.size = m2 at *
          try simp only [Act.put, List.setIfInBounds_toArray, List.set_cons_zero, List.set_cons_succ]
          refine wpAnyH_take (i := 3) (oi := _) (v := ?_) rfl (by kernel_rfl) (by kernel_rfl) (by kernel_rfl) (fun _ _ _ h => h) (Or.inl ⟨by rfl, ?_⟩) (by assumption) ?_
          rotate_left 1
          · (intro w hSw; (try dsimp only at hSw); go_simp; first | done | with_reducible rfl)
          try simp only [Act.put, List.setIfInBounds_toArray]
          refine wpAnyH_ready (rs := [10]) (by kernel_rfl) (by simp) ?_
          refine (AllReadyH.cons (o := _) rfl (fun K hK => ?_) AllReadyH.nil)
          obtain ⟨⟨z0, z1, z2, z3, z4, z5, z6, z7⟩, ⟨f0, f1, f2, f3, f4, f5, f6, f7⟩⟩ := cells8 (HL.out.b8 m8 rfl).1
          go_simp
          clear z0 z1 z2 z3 z4 z5 z6 z7 f0 f1 f2 f3 f4 f5 f6 f7
          refine hK.out _ _ ?_ (fun hHeld' => ?_)
          · exact HS.out _ (kput_keep (And.left hHeld) (HL.out.b8 m8 rfl).2 4 m2)
          clear hK K hHeld
          have hHeld := hHeld'
          clear hHeld'
          have HL' := HL.out.put8_
          unfold kput put8 at HL'
          clear HL
          have HL := Lib.hid HL'
          clear HL'
          generalize World.setCell _ _ _ = X5 at *
          try simp only [Act.put, List.setIfInBounds_toArray, List.set_cons_zero, List.set_cons_succ]
          refine wpAnyH_ready (rs := [11]) (by kernel_rfl) (by simp) ?_
          refine (AllReadyH.cons (o := _) rfl (fun K hK => ?_) AllReadyH.nil)
          obtain ⟨⟨z0, z1, z2, z3, z4, z5, z6, z7⟩, ⟨f0, f1, f2, f3, f4, f5, f6, f7⟩⟩ := cells8 (HL.out.b9 m9 rfl).1
          go_simp
          clear z0 z1 z2 z3 z4 z5 z6 z7 f0 f1 f2 f3 f4 f5 f6 f7
          refine hK.out _ _ ?_ (fun hHeld' => ?_)
          · exact HS.out _ (kput_keep (And.left hHeld) (HL.out.b9 m9 rfl).2 3 m6)
          clear hK K hHeld
          have hHeld := hHeld'
          clear hHeld'
          have HL' := HL.out.put9_
          unfold kput put8 at HL'
          clear HL
          have HL := Lib.hid HL'
          clear HL'
          generalize World.setCell _ _ _ = X6 at *
          try simp only [Act.put, List.setIfInBounds_toArray, List.set_cons_zero, List.set_cons_succ]
          refine wpAnyH_done (by kernel_rfl) ?_ _
          refine NoPanic.normal ?_
          have HPR := Lib.hid (HL.out.par)
          clear hHeld HL
          go_wp2_with fail
          go_meet
          case rel => exact ⟨m8, m9, m2, m6, rfl, rfl, HPR.out⟩
      · go_simp
        refine hK.out _ _ ?_ (fun hHeld' => ?_)
        · exact HS.out _ (Keep.alloc (And.left hHeld) _)
        clear hK K hHeld
        have hHeld := hHeld'
        clear hHeld'
        have HL' := Lib.hid HL.out.alloc9
        clear HL
        have HL := HL'
        clear HL'
        generalize World.alloc X1 _ = X2 at *
        generalize X1.heap.size = m9 at *
        try simp only [Act.put, List.setIfInBounds_toArray, List.set_cons_zero, List.set_cons_succ]
        refine wpAnyH_ready (rs := [2, 8]) (by kernel_rfl) (by simp) ?_
        refine (AllReadyH.cons (o := _) rfl (fun K hK => ?_) (AllReadyH.cons (o := _) rfl (fun K hK => ?_) AllReadyH.nil))
        · go_simp
          refine hK.out _ _ ?_ (fun hHeld' => ?_)
          · exact HS.out _ (Keep.alloc (And.left hHeld) _)
          clear hK K hHeld
          have hHeld := hHeld'
          clear hHeld'
          have HL' := Lib.hid HL.out.alloc2
          clear HL
          have HL := HL'
          clear HL'
          generalize World.alloc X2 _ = X3 at *
          generalize X2.heap.size = m2 at *
          try simp only [Act.put, List.setIfInBounds_toArray, List.set_cons_zero, List.set_cons_succ]
          refine wpAnyH_take (i := 3) (oi := _) (v := ?_) rfl (by kernel_rfl) (by kernel_rfl) (by kernel_rfl) (fun _ _ _ h => h) (Or.inl ⟨by rfl, ?_⟩) (by assumption) ?_
          rotate_left 1
          · (intro w hSw; (try dsimp only at hSw); go_simp; first | done | with_reducible rfl)
          try simp only [Act.put, List.setIfInBounds_toArray]
          refine wpAnyH_ready (rs := [8]) (by kernel_rfl) (by simp) ?_
          refine (AllReadyH.cons (o := _) rfl (fun K hK => ?_) AllReadyH.nil)
          go_simp
          refine hK.out _ _ ?_ (fun hHeld' => ?_)
          · exact HS.out _ (Keep.alloc (And.left hHeld) _)
          clear hK K hHeld
          have hHeld := hHeld'
          clear hHeld'
          have HL' := Lib.hid HL.out.alloc8
          clear HL
          have HL := HL'
          clear HL'
          generalize World.alloc X3 _ = X4 at *
          generalize X3.heap.size = m8 at *
          try simp only [Act.put, List.setIfInBounds_toArray, List.set_cons_zero, List.set_cons_succ]
          refine wpAnyH_ready (rs := [10]) (by kernel_rfl) (by simp) ?_
          refine (AllReadyH.cons (o := _) rfl (fun K hK => ?_) AllReadyH.nil)
          obtain ⟨⟨z0, z1, z2, z3, z4, z5, z6, z7⟩, ⟨f0, f1, f2, f3, f4, f5, f6, f7⟩⟩ := cells8 (HL.out.b8 m8 rfl).1
          go_simp
          clear z0 z1 z2 z3 z4 z5 z6 z7 f0 f1 f2 f3 f4 f5 f6 f7
          refine hK.out _ _ ?_ (fun hHeld' => ?_)
          · exact HS.out _ (kput_keep (And.left hHeld) (HL.out.b8 m8 rfl).2 4 m2)
          clear hK K hHeld
          have hHeld := hHeld'
          clear hHeld'
          have HL' := HL.out.put8_
          unfold kput put8 at HL'
          clear HL
          have HL := Lib.hid HL'
          clear HL'
          generalize World.setCell _ _ _ = X5 at *
          try simp only [Act.put, List.setIfInBounds_toArray, List.set_cons_zero, List.set_cons_succ]
          refine wpAnyH_ready (rs := [11]) (by kernel_rfl) (by simp) ?_
          refine (AllReadyH.cons (o := _) rfl (fun K hK => ?_) AllReadyH.nil)
          obtain ⟨⟨z0, z1, z2, z3, z4, z5, z6, z7⟩, ⟨f0, f1, f2, f3, f4, f5, f6, f7⟩⟩ := cells8 (HL.out.b9 m9 rfl).1
          go_simp
          clear z0 z1 z2 z3 z4 z5 z6 z7 f0 f1 f2 f3 f4 f5 f6 f7
          refine hK.out _ _ ?_ (fun hHeld' => ?_)
          · exact HS.out _ (kput_keep (And.left hHeld) (HL.out.b9 m9 rfl).2 3 m6)
          clear hK K hHeld
          have hHeld := hHeld'
          clear hHeld'
          have HL' := HL.out.put9_
          unfold kput put8 at HL'
          clear HL
          have HL := Lib.hid HL'
          clear HL'
          generalize World.setCell _ _ _ = X6 at *
          try simp only [Act.put, List.setIfInBounds_toArray, List.set_cons_zero, List.set_cons_succ]
          refine wpAnyH_done (by kernel_rfl) ?_ _
          refine NoPanic.normal ?_
          have HPR := Lib.hid (HL.out.par)
          clear hHeld HL
          go_wp2_with fail
          go_meet
          case rel => exact ⟨m8, m9, m2, m6, rfl, rfl, HPR.out⟩
        · go_simp
          refine hK.out _ _ ?_ (fun hHeld' => ?_)
          · exact HS.out _ (Keep.alloc (And.left hHeld) _)
          clear hK K hHeld
          have hHeld := hHeld'
          clear hHeld'
          have HL' := Lib.hid HL.out.alloc8
          clear HL
          have HL := HL'
          clear HL'
          generalize World.alloc X2 _ = X3 at *
          generalize X2.heap.size = m8 at *
          try simp only [Act.put, List.setIfInBounds_toArray, List.set_cons_zero, List.set_cons_succ]
          refine wpAnyH_ready (rs := [2]) (by kernel_rfl) (by simp) ?_
          refine (AllReadyH.cons (o := _) rfl (fun K hK => ?_) AllReadyH.nil)
          go_simp
          refine hK.out _ _ ?_ (fun hHeld' => ?_)
          · exact HS.out _ (Keep.alloc (And.left hHeld) _)
          clear hK K hHeld
          have hHeld := hHeld'
          clear hHeld'
          have HL' := Lib.hid HL.out.alloc2
          clear HL
          have HL := HL'
          clear HL'
          generalize World.alloc X3 _ = X4 at *
          generalize X3.heap.size = m2 at *
          try simp only [Act.put, List.setIfInBounds_toArray, List.set_cons_zero, List.set_cons_succ]
          refine wpAnyH_take (i := 3) (oi := _) (v := ?_) rfl (by kernel_rfl) (by kernel_rfl) (by kernel_rfl) (fun _ _ _ h => h) (Or.inl ⟨by rfl, ?_⟩) (by assumption) ?_
          rotate_left 1
          · (intro w hSw; (try dsimp only at hSw); go_simp; first | done | with_reducible rfl)
          try simp only [Act.put, List.setIfInBounds_toArray]
          refine wpAnyH_ready (rs := [10]) (by kernel_rfl) (by simp) ?_
          refine (AllReadyH.cons (o := _) rfl (fun K hK => ?_) AllReadyH.nil)
          obtain ⟨⟨z0, z1, z2, z3, z4, z5, z6, z7⟩, ⟨f0, f1, f2, f3, f4, f5, f6, f7⟩⟩ := cells8 (HL.out.b8 m8 rfl).1
          go_simp
          clear z0 z1 z2 z3 z4 z5 z6 z7 f0 f1 f2 f3 f4 f5 f6 f7
          refine hK.out _ _ ?_ (fun hHeld' => ?_)
          · exact HS.out _ (kput_keep (And.left hHeld) (HL.out.b8 m8 rfl).2 4 m2)
          clear hK K hHeld
          have hHeld := hHeld'
          clear hHeld'
          have HL' := HL.out.put8_
          unfold kput put8 at HL'
          clear HL
          have HL := Lib.hid HL'
          clear HL'
          generalize World.setCell _ _ _ = X5 at *
          try simp only [Act.put, List.setIfInBounds_toArray, List.set_cons_zero, List.set_cons_succ]
          refine wpAnyH_ready (rs := [11]) (by kernel_rfl) (by simp) ?_
          refine (AllReadyH.cons (o := _) rfl (fun K hK => ?_) AllReadyH.nil)
          obtain ⟨⟨z0, z1, z2, z3, z4, z5, z6, z7⟩, ⟨f0, f1, f2, f3, f4, f5, f6, f7⟩⟩ := cells8 (HL.out.b9 m9 rfl).1
          go_simp
          clear z0 z1 z2 z3 z4 z5 z6 z7 f0 f1 f2 f3 f4 f5 f6 f7
          refine hK.out _ _ ?_ (fun hHeld' => ?_)
          · exact HS.out _ (kput_keep (And.left hHeld) (HL.out.b9 m9 rfl).2 3 m6)
          clear hK K hHeld
          have hHeld := hHeld'
          clear hHeld'
          have HL' := HL.out.put9_
          unfold kput put8 at HL'
          clear HL
          have HL := Lib.hid HL'
          clear HL'
          generalize World.setCell _ _ _ = X6 at *
          try simp only [Act.put, List.setIfInBounds_toArray, List.set_cons_zero, List.set_cons_succ]
          refine wpAnyH_done (by kernel_rfl) ?_ _
          refine NoPanic.normal ?_
          have HPR := Lib.hid (HL.out.par)
          clear hHeld HL
          go_wp2_with fail
          go_meet
          case rel => exact ⟨m8, m9, m2, m6, rfl, rfl, HPR.out⟩
    · go_simp
      refine hK.out _ _ ?_ (fun hHeld' => ?_)
      · exact HS.out _ (Keep.alloc (And.left hHeld) _)
      clear hK K hHeld
      have hHeld := hHeld'
      clear hHeld'
      have HL' := Lib.hid HL.out.alloc8
      clear HL
      have HL := HL'
      clear HL'
      generalize World.alloc X0 _ = X1 at *
      generalize X0.heap.size = m8 at *
      try simp only [Act.put, List.setIfInBounds_toArray, List.set_cons_zero, List.set_cons_succ]
      refine wpAnyH_ready (rs := [2, 6, 9]) (by kernel_rfl) (by simp) ?_
      refine (AllReadyH.cons (o := _) rfl (fun K hK => ?_) (AllReadyH.cons (o := _) rfl (fun K hK => ?_) (AllReadyH.cons (o := _) rfl (fun K hK => ?_) AllReadyH.nil)))
      · go_simp
        refine hK.out _ _ ?_ (fun hHeld' => ?_)
        · exact HS.out _ (Keep.alloc (And.left hHeld) _)
        clear hK K hHeld
        have hHeld := hHeld'
        clear hHeld'
        have HL' := Lib.hid HL.out.alloc2
        clear HL
        have HL := HL'
        clear HL'
        generalize World.alloc X1 _ = X2 at *
        generalize X1.heap.size = m2 at *
        try simp only [Act.put, List.setIfInBounds_toArray, List.set_cons_zero, List.set_cons_succ]
        refine wpAnyH_take (i := 3) (oi := _) (v := ?_) rfl (by kernel_rfl) (by kernel_rfl) (by kernel_rfl) (fun _ _ _ h => h) (Or.inl ⟨by rfl, ?_⟩) (by assumption) ?_
        rotate_left 1
        · (intro w hSw; (try dsimp only at hSw); go_simp; first | done | with_reducible rfl)
        try simp only [Act.put, List.setIfInBounds_toArray]
        refine wpAnyH_ready (rs := [6, 9]) (by kernel_rfl) (by simp) ?_
        refine (AllReadyH.cons (o := _) rfl (fun K hK => ?_) (AllReadyH.cons (o := _) rfl (fun K hK => ?_) AllReadyH.nil))
        · go_simp
          refine hK.out _ _ ?_ (fun hHeld' => ?_)
          · exact HS.out _ (Keep.alloc (And.left hHeld) _)
          clear hK K hHeld
          have hHeld := hHeld'
          clear hHeld'
          have HL' := Lib.hid HL.out.alloc6
          clear HL
          have HL := HL'
          clear HL'
          generalize World.alloc X2 _ = X3 at *
          generalize X2.heap.size = m6 at *
          try simp only [Act.put, List.setIfInBounds_toArray, List.set_cons_zero, List.set_cons_succ]
          refine wpAnyH_take (i := 7) (oi := _) (v := ?_) rfl (by kernel_rfl) (by kernel_rfl) (by kernel_rfl) (fun _ _ _ h => h) (Or.inl ⟨by rfl, ?_⟩) (by assumption) ?_
          rotate_left 1
          · (intro w hSw; (try dsimp only at hSw); go_simp; first | done | with_reducible rfl)
          try simp only [Act.put, List.setIfInBounds_toArray]
          refine wpAnyH_ready (rs := [9]) (by kernel_rfl) (by simp) ?_
          refine (AllReadyH.cons (o := _) rfl (fun K hK => ?_) AllReadyH.nil)
          go_simp
          refine hK.out _ _ ?_ (fun hHeld' => ?_)
          · exact HS.out _ (Keep.alloc (And.left hHeld) _)
          clear hK K hHeld
          have hHeld := hHeld'
          clear hHeld'
          have HL' := Lib.hid HL.out.alloc9
          clear HL
          have HL := HL'
          clear HL'
          generalize World.alloc X3 _ = X4 at *
          generalize X3.heap.size = m9 at *
          try simp only [Act.put, List.setIfInBounds_toArray, List.set_cons_zero, List.set_cons_succ]
          refine wpAnyH_ready (rs := [10]) (by kernel_rfl) (by simp) ?_
          refine (AllReadyH.cons (o := _) rfl (fun K hK => ?_) AllReadyH.nil)
          obtain ⟨⟨z0, z1, z2, z3, z4, z5, z6, z7⟩, ⟨f0, f1, f2, f3, f4, f5, f6, f7⟩⟩ := cells8 (HL.out.b8 m8 rfl).1
          go_simp
          clear z0 z1 z2 z3 z4 z5 z6 z7 f0 f1 f2 f3 f4 f5 f6 f7
          refine hK.out _ _ ?_ (fun hHeld' => ?_)
          · exact HS.out _ (kput_keep (And.left hHeld) (HL.out.b8 m8 rfl).2 4 m2)
          clear hK K hHeld
          have hHeld := hHeld'
          clear hHeld'
          have HL' := HL.out.put8_
          unfold kput put8 at HL'
          clear HL
          have HL := Lib.hid HL'
          clear HL'
          generalize World.setCell _ _ _ = X5 at *
          try simp only [Act.put, List.setIfInBounds_toArray, List.set_cons_zero, List.set_cons_succ]
          refine wpAnyH_ready (rs := [11]) (by kernel_rfl) (by simp) ?_
          refine (AllReadyH.cons (o := _) rfl (fun K hK => ?_) AllReadyH.nil)
          obtain ⟨⟨z0, z1, z2, z3, z4, z5, z6, z7⟩, ⟨f0, f1, f2, f3, f4, f5, f6, f7⟩⟩ := cells8 (HL.out.b9 m9 rfl).1
          go_simp
          clear z0 z1 z2 z3 z4 z5 z6 z7 f0 f1 f2 f3 f4 f5 f6 f7
          refine hK.out _ _ ?_ (fun hHeld' => ?_)
          · exact HS.out _ (kput_keep (And.left hHeld) (HL.out.b9 m9 rfl).2 3 m6)
          clear hK K hHeld
          have hHeld := hHeld'
          clear hHeld'
          have HL' := HL.out.put9_
          unfold kput put8 at HL'
          clear HL
          have HL := Lib.hid HL'
          clear HL'
          generalize World.setCell _ _ _ = X6 at *
          try simp only [Act.put, List.setIfInBounds_toArray, List.set_cons_zero, List.set_cons_succ]
          refine wpAnyH_done (by kernel_rfl) ?_ _
          refine NoPanic.normal ?_
          have HPR := Lib.hid (HL.out.par)
          clear hHeld HL
          go_wp2_with fail
          go_meet
          case rel => exact ⟨m8, m9, m2, m6, rfl, rfl, HPR.out⟩
        · go_simp
          refine hK.out _ _ ?_ (fun hHeld' => ?_)
          · exact HS.out _ (Keep.alloc (And.left hHeld) _)
          clear hK K hHeld
          have hHeld := hHeld'
          clear hHeld'
          have HL' := Lib.hid HL.out.alloc9
          clear HL
          have HL := HL'
          clear HL'
          generalize World.alloc X2 _ = X3 at *
          generalize X2.heap.size = m9 at *
          try simp only [Act.put, List.setIfInBounds_toArray, List.set_cons_zero, List.set_cons_succ]
          refine wpAnyH_ready (rs := [6, 10]) (by kernel_rfl) (by simp) ?_
          refine (AllReadyH.cons (o := _) rfl (fun K hK => ?_) (AllReadyH.cons (o := _) rfl (fun K hK => ?_) AllReadyH.nil))
          · go_simp
            refine hK.out _ _ ?_ (fun hHeld' => ?_)
            · exact HS.out _ (Keep.alloc (And.left hHeld) _)
            clear hK K hHeld
            have hHeld := hHeld'
            clear hHeld'
            have HL' := Lib.hid HL.out.alloc6
            clear HL
            have HL := HL'
            clear HL'
            generalize World.alloc X3 _ = X4 at *
            generalize X3.heap.size = m6 at *
            try simp only [Act.put, List.setIfInBounds_toArray, List.set_cons_zero, List.set_cons_succ]
            refine wpAnyH_take (i := 7) (oi := _) (v := ?_) rfl (by kernel_rfl) (by kernel_rfl) (by kernel_rfl) (fun _ _ _ h => h) (Or.inl ⟨by rfl, ?_⟩) (by assumption) ?_
            rotate_left 1
            · (intro w hSw; (try dsimp only at hSw); go_simp; first | done | with_reducible rfl)
            try simp only [Act.put, List.setIfInBounds_toArray]
            refine wpAnyH_ready (rs := [10]) (by kernel_rfl) (by simp) ?_
            refine (AllReadyH.cons (o := _) rfl (fun K hK => ?_) AllReadyH.nil)
            obtain ⟨⟨z0, z1, z2, z3, z4, z5, z6, z7⟩, ⟨f0, f1, f2, f3, f4, f5, f6, f7⟩⟩ := cells8 (HL.out.b8 m8 rfl).1
            go_simp
            clear z0 z1 z2 z3 z4 z5 z6 z7 f0 f1 f2 f3 f4 f5 f6 f7
            refine hK.out _ _ ?_ (fun hHeld' => ?_)
            · exact HS.out _ (kput_keep (And.left hHeld) (HL.out.b8 m8 rfl).2 4 m2)
            clear hK K hHeld
            have hHeld := hHeld'
            clear hHeld'
            have HL' := HL.out.put8_
            unfold kput put8 at HL'
            clear HL
            have HL := Lib.hid HL'
            clear HL'
            generalize World.setCell _ _ _ = X5 at *
            try simp only [Act.put, List.setIfInBounds_toArray, List.set_cons_zero, List.set_cons_succ]
            refine wpAnyH_ready (rs := [11]) (by kernel_rfl) (by simp) ?_
            refine (AllReadyH.cons (o := _) rfl (fun K hK => ?_) AllReadyH.nil)
            obtain ⟨⟨z0, z1, z2, z3, z4, z5, z6, z7⟩, ⟨f0, f1, f2, f3, f4, f5, f6, f7⟩⟩ := cells8 (HL.out.b9 m9 rfl).1
            go_simp
            clear z0 z1 z2 z3 z4 z5 z6 z7 f0 f1 f2 f3 f4 f5 f6 f7
            refine hK.out _ _ ?_ (fun hHeld' => ?_)
            · exact HS.out _ (kput_keep (And.left hHeld) (HL.out.b9 m9 rfl).2 3 m6)
            clear hK K hHeld
            have hHeld := hHeld'
            clear hHeld'
            have HL' := HL.out.put9_
            unfold kput put8 at HL'
            clear HL
            have HL := Lib.hid HL'
            clear HL'
            generalize World.setCell _ _ _ = X6 at *
            try simp only [Act.put, List.setIfInBounds_toArray, List.set_cons_zero, List.set_cons_succ]
            refine wpAnyH_done (by kernel_rfl) ?_ _
            refine NoPanic.normal ?_
            have HPR := Lib.hid (HL.out.par)
            clear hHeld HL
            go_wp2_with fail
            go_meet
            case rel => exact ⟨m8, m9, m2, m6, rfl, rfl, HPR.out⟩
          · obtain ⟨⟨z0, z1, z2, z3, z4, z5, z6, z7⟩, ⟨f0, f1, f2, f3, f4, f5, f6, f7⟩⟩ := cells8 (HL.out.b8 m8 rfl).1
            go_simp
            clear z0 z1 z2 z3 z4 z5 z6 z7 f0 f1 f2 f3 f4 f5 f6 f7
            refine hK.out _ _ ?_ (fun hHeld' => ?_)
            · exact HS.out _ (kput_keep (And.left hHeld) (HL.out.b8 m8 rfl).2 4 m2)
            clear hK K hHeld
            have hHeld := hHeld'
            clear hHeld'
            have HL' := HL.out.put8_
            unfold kput put8 at HL'
            clear HL
            have HL := Lib.hid HL'
            clear HL'
            generalize World.setCell _ _ _ = X4 at *
            try simp only [Act.put, List.setIfInBounds_toArray, List.set_cons_zero, List.set_cons_succ]
            refine wpAnyH_ready (rs := [6]) (by kernel_rfl) (by simp) ?_
            refine (AllReadyH.cons (o := _) rfl (fun K hK => ?_) AllReadyH.nil)
            go_simp
            refine hK.out _ _ ?_ (fun hHeld' => ?_)
            · exact HS.out _ (Keep.alloc (And.left hHeld) _)
            clear hK K hHeld
            have hHeld := hHeld'
            clear hHeld'
            have HL' := Lib.hid HL.out.alloc6
            clear HL
            have HL := HL'
            clear HL'
            generalize World.alloc X4 _ = X5 at *
            generalize X4.heap.size = m6 at *
            try simp only [Act.put, List.setIfInBounds_toArray, List.set_cons_zero, List.set_cons_succ]
            refine wpAnyH_take (i := 7) (oi := _) (v := ?_) rfl (by kernel_rfl) (by kernel_rfl) (by kernel_rfl) (fun _ _ _ h => h) (Or.inl ⟨by rfl, ?_⟩) (by assumption) ?_
            rotate_left 1
            · (intro w hSw; (try dsimp only at hSw); go_simp; first | done | with_reducible rfl)
            try simp only [Act.put, List.setIfInBounds_toArray]
            refine wpAnyH_ready (rs := [11]) (by kernel_rfl) (by simp) ?_
            refine (AllReadyH.cons (o := _) rfl (fun K hK => ?_) AllReadyH.nil)
            obtain ⟨⟨z0, z1, z2, z3, z4, z5, z6, z7⟩, ⟨f0, f1, f2, f3, f4, f5, f6, f7⟩⟩ := cells8 (HL.out.b9 m9 rfl).1
            go_simp
            clear z0 z1 z2 z3 z4 z5 z6 z7 f0 f1 f2 f3 f4 f5 f6 f7
            refine hK.out _ _ ?_ (fun hHeld' => ?_)
            · exact HS.out _ (kput_keep (And.left hHeld) (HL.out.b9 m9 rfl).2 3 m6)
            clear hK K hHeld
            have hHeld := hHeld'
            clear hHeld'
            have HL' := HL.out.put9_
            unfold kput put8 at HL'
            clear HL
            have HL := Lib.hid HL'
            clear HL'
            generalize World.setCell _ _ _ = X6 at *
            try simp only [Act.put, List.setIfInBounds_toArray, List.set_cons_zero, List.set_cons_succ]
            refine wpAnyH_done (by kernel_rfl) ?_ _
            refine NoPanic.normal ?_
            have HPR := Lib.hid (HL.out.par)
            clear hHeld HL
            go_wp2_with fail
            go_meet
            case rel => exact ⟨m8, m9, m2, m6, rfl, rfl, HPR.out⟩
      · go_simp
        refine hK.out _ _ ?_ (fun hHeld' => ?_)
        · exact HS.out _ (Keep.alloc (And.left hHeld) _)
        clear hK K hHeld
        have hHeld := hHeld'
        clear hHeld'
        have HL' := Lib.hid HL.out.alloc6
        clear HL
        have HL := HL'
        clear HL'
        generalize World.alloc X1 _ = X2 at *
        generalize X1.heap.size = m6 at *
        try simp only [Act.put, List.setIfInBounds_toArray, List.set_cons_zero, List.set_cons_succ]
        refine wpAnyH_take (i := 7) (oi := _) (v := ?_) rfl (by kernel_rfl) (by kernel_rfl) (by kernel_rfl) (fun _ _ _ h => h) (Or.inl ⟨by rfl, ?_⟩) (by assumption) ?_
        rotate_left 1
        · (intro w hSw; (try dsimp only at hSw); go_simp; first | done | with_reducible rfl)
        try simp only [Act.put, List.setIfInBounds_toArray]
        refine wpAnyH_ready (rs := [2, 9]) (by kernel_rfl) (by simp) ?_
        refine (AllReadyH.cons (o := _) rfl (fun K hK => ?_) (AllReadyH.cons (o := _) rfl (fun K hK => ?_) AllReadyH.nil))
        · go_simp
          refine hK.out _ _ ?_ (fun hHeld' => ?_)
          · exact HS.out _ (Keep.alloc (And.left hHeld) _)
          clear hK K hHeld
          have hHeld := hHeld'
          clear hHeld'
          have HL' := Lib.hid HL.out.alloc2
          clear HL
          have HL := HL'
          clear HL'
          generalize World.alloc X2 _ = X3 at *
          generalize X2.heap.size = m2 at *
          try simp only [Act.put, List.setIfInBounds_toArray, List.set_cons_zero, List.set_cons_succ]
          refine wpAnyH_take (i := 3) (oi := _) (v := ?_) rfl (by kernel_rfl) (by kernel_rfl) (by kernel_rfl) (fun _ _ _ h => h) (Or.inl ⟨by rfl, ?_⟩) (by assumption) ?_
          rotate_left 1
          · (intro w hSw; (try dsimp only at hSw); go_simp; first | done | with_reducible rfl)
          try simp only [Act.put, List.setIfInBounds_toArray]
          refine wpAnyH_ready (rs := [9]) (by kernel_rfl) (by simp) ?_
          refine (AllReadyH.cons (o := _) rfl (fun K hK => ?_) AllReadyH.nil)
          go_simp
          refine hK.out _ _ ?_ (fun hHeld' => ?_)
          · exact HS.out _ (Keep.alloc (And.left hHeld) _)
          clear hK K hHeld
          have hHeld := hHeld'
          clear hHeld'
          have HL' := Lib.hid HL.out.alloc9
          clear HL
          have HL := HL'
          clear HL'
          generalize World.alloc X3 _ = X4 at *
          generalize X3.heap.size = m9 at *
          try simp only [Act.put, List.setIfInBounds_toArray, List.set_cons_zero, List.set_cons_succ]
          refine wpAnyH_ready (rs := [10]) (by kernel_rfl) (by simp) ?_
          refine (AllReadyH.cons (o := _) rfl (fun K hK => ?_) AllReadyH.nil)
          obtain ⟨⟨z0, z1, z2, z3, z4, z5, z6, z7⟩, ⟨f0, f1, f2, f3, f4, f5, f6, f7⟩⟩ := cells8 (HL.out.b8 m8 rfl).1
          go_simp
          clear z0 z1 z2 z3 z4 z5 z6 z7 f0 f1 f2 f3 f4 f5 f6 f7
          refine hK.out _ _ ?_ (fun hHeld' => ?_)
          · exact HS.out _ (kput_keep (And.left hHeld) (HL.out.b8 m8 rfl).2 4 m2)
          clear hK K hHeld
          have hHeld := hHeld'
          clear hHeld'
          have HL' := HL.out.put8_
          unfold kput put8 at HL'
          clear HL
          have HL := Lib.hid HL'
          clear HL'
          generalize World.setCell _ _ _ = X5 at *
          try simp only [Act.put, List.setIfInBounds_toArray, List.set_cons_zero, List.set_cons_succ]
          refine wpAnyH_ready (rs := [11]) (by kernel_rfl) (by simp) ?_
          refine (AllReadyH.cons (o := _) rfl (fun K hK => ?_) AllReadyH.nil)
          obtain ⟨⟨z0, z1, z2, z3, z4, z5, z6, z7⟩, ⟨f0, f1, f2, f3, f4, f5, f6, f7⟩⟩ := cells8 (HL.out.b9 m9 rfl).1
          go_simp
          clear z0 z1 z2 z3 z4 z5 z6 z7 f0 f1 f2 f3 f4 f5 f6 f7
          refine hK.out _ _ ?_ (fun hHeld' => ?_)
          · exact HS.out _ (kput_keep (And.left hHeld) (HL.out.b9 m9 rfl).2 3 m6)
          clear hK K hHeld
          have hHeld := hHeld'
          clear hHeld'
          have HL' := HL.out.put9_
          unfold kput put8 at HL'
          clear HL
          have HL := Lib.hid HL'
          clear HL'
          generalize World.setCell _ _ _ = X6 at *
          try simp only [Act.put, List.setIfInBounds_toArray, List.set_cons_zero, List.set_cons_succ]
          refine wpAnyH_done (by kernel_rfl) ?_ _
          refine NoPanic.normal ?_
          have HPR := Lib.hid (HL.out.par)
          clear hHeld HL
          go_wp2_with fail
          go_meet
          case rel => exact ⟨m8, m9, m2, m6, rfl, rfl, HPR.out⟩
        · go_simp
          refine hK.out _ _ ?_ (fun hHeld' => ?_)
          · exact HS.out _ (Keep.alloc (And.left hHeld) _)
          clear hK K hHeld
          have hHeld := hHeld'
          clear hHeld'
          have HL' := Lib.hid HL.out.alloc9
          clear HL
          have HL := HL'
          clear HL'
          generalize World.alloc X2 _ = X3 at *
          generalize X2.heap.size = m9 at *
          try simp only [Act.put, List.setIfInBounds_toArray, List.set_cons_zero, List.set_cons_succ]
          refine wpAnyH_ready (rs := [2]) (by kernel_rfl) (by simp) ?_
          refine (AllReadyH.cons (o := _) rfl (fun K hK => ?_) AllReadyH.nil)
          go_simp
          refine hK.out _ _ ?_ (fun hHeld' => ?_)
          · exact HS.out _ (Keep.alloc (And.left hHeld) _)
          clear hK K hHeld
          have hHeld := hHeld'
          clear hHeld'
          have HL' := Lib.hid HL.out.alloc2
          clear HL
          have HL := HL'
          clear HL'
          generalize World.alloc X3 _ = X4 at *
          generalize X3.heap.size = m2 at *
          try simp only [Act.put, List.setIfInBounds_toArray, List.set_cons_zero, List.set_cons_succ]
          refine wpAnyH_take (i := 3) (oi := _) (v := ?_) rfl (by kernel_rfl) (by kernel_rfl) (by kernel_rfl) (fun _ _ _ h => h) (Or.inl ⟨by rfl, ?_⟩) (by assumption) ?_
          rotate_left 1
          · (intro w hSw; (try dsimp only at hSw); go_simp; first | done | with_reducible rfl)
          try simp only [Act.put, List.setIfInBounds_toArray]
          refine wpAnyH_ready (rs := [10]) (by kernel_rfl) (by simp) ?_
          refine (AllReadyH.cons (o := _) rfl (fun K hK => ?_) AllReadyH.nil)
          obtain ⟨⟨z0, z1, z2, z3, z4, z5, z6, z7⟩, ⟨f0, f1, f2, f3, f4, f5, f6, f7⟩⟩ := cells8 (HL.out.b8 m8 rfl).1
          go_simp
          clear z0 z1 z2 z3 z4 z5 z6 z7 f0 f1 f2 f3 f4 f5 f6 f7
          refine hK.out _ _ ?_ (fun hHeld' => ?_)
          · exact HS.out _ (kput_keep (And.left hHeld) (HL.out.b8 m8 rfl).2 4 m2)
          clear hK K hHeld
          have hHeld := hHeld'
          clear hHeld'
          have HL' := HL.out.put8_
          unfold kput put8 at HL'
          clear HL
          have HL := Lib.hid HL'
          clear HL'
          generalize World.setCell _ _ _ = X5 at *
          try simp only [Act.put, List.setIfInBounds_toArray, List.set_cons_zero, List.set_cons_succ]
          refine wpAnyH_ready (rs := [11]) (by kernel_rfl) (by simp) ?_
          refine (AllReadyH.cons (o := _) rfl (fun K hK => ?_) AllReadyH.nil)
          obtain ⟨⟨z0, z1, z2, z3, z4, z5, z6, z7⟩, ⟨f0, f1, f2, f3, f4, f5, f6, f7⟩⟩ := cells8 (HL.out.b9 m9 rfl).1
          go_simp
          clear z0 z1 z2 z3 z4 z5 z6 z7 f0 f1 f2 f3 f4 f5 f6 f7
          refine hK.out _ _ ?_ (fun hHeld' => ?_)
          · exact HS.out _ (kput_keep (And.left hHeld) (HL.out.b9 m9 rfl).2 3 m6)
          clear hK K hHeld
          have hHeld := hHeld'
          clear hHeld'
          have HL' := HL.out.put9_
          unfold kput put8 at HL'
          clear HL
          have HL := Lib.hid HL'
          clear HL'
          generalize World.setCell _ _ _ = X6 at *
          try simp only [Act.put, List.setIfInBounds_toArray, List.set_cons_zero, List.set_cons_succ]
          refine wpAnyH_done (by kernel_rfl) ?_ _
          refine NoPanic.normal ?_
          have HPR := Lib.hid (HL.out.par)
          clear hHeld HL
          go_wp2_with fail
          go_meet
          case rel => exact ⟨m8, m9, m2, m6, rfl, rfl, HPR.out⟩
      · go_simp
        refine hK.out _ _ ?_ (fun hHeld' => ?_)
        · exact HS.out _ (Keep.alloc (And.left hHeld) _)
        clear hK K hHeld
        have hHeld := hHeld'
        clear hHeld'
        have HL' := Lib.hid HL.out.alloc9
        clear HL
        have HL := HL'
        clear HL'
        generalize World.alloc X1 _ = X2 at *
        generalize X1.heap.size = m9 at *
        try simp only [Act.put, List.setIfInBounds_toArray, List.set_cons_zero, List.set_cons_succ]
        refine wpAnyH_ready (rs := [2, 6]) (by kernel_rfl) (by simp) ?_
        refine (AllReadyH.cons (o := _) rfl (fun K hK => ?_) (AllReadyH.cons (o := _) rfl (fun K hK => ?_) AllReadyH.nil))
        · go_simp
          refine hK.out _ _ ?_ (fun hHeld' => ?_)
          · exact HS.out _ (Keep.alloc (And.left hHeld) _)
          clear hK K hHeld
          have hHeld := hHeld'
          clear hHeld'
          have HL' := Lib.hid HL.out.alloc2
          clear HL
          have HL := HL'
          clear HL'
          generalize World.alloc X2 _ = X3 at *
          generalize X2.heap.size = m2 at *
          try simp only [Act.put, List.setIfInBounds_toArray, List.set_cons_zero, List.set_cons_succ]
          refine wpAnyH_take (i := 3) (oi := _) (v := ?_) rfl (by kernel_rfl) (by kernel_rfl) (by kernel_rfl) (fun _ _ _ h => h) (Or.inl ⟨by rfl, ?_⟩) (by assumption) ?_
          rotate_left 1
          · (intro w hSw; (try dsimp only at hSw); go_simp; first | done | with_reducible rfl)
          try simp only [Act.put, List.setIfInBounds_toArray]
          refine wpAnyH_ready (rs := [6, 10]) (by kernel_rfl) (by simp) ?_
          refine (AllReadyH.cons (o := _) rfl (fun K hK => ?_) (AllReadyH.cons (o := _) rfl (fun K hK => ?_) AllReadyH.nil))
          · go_simp
            refine hK.out _ _ ?_ (fun hHeld' => ?_)
            · exact HS.out _ (Keep.alloc (And.left hHeld) _)
            clear hK K hHeld
            have hHeld := hHeld'
            clear hHeld'
            have HL' := Lib.hid HL.out.alloc6
            clear HL
            have HL := HL'
            clear HL'
            generalize World.alloc X3 _ = X4 at *
            generalize X3.heap.size = m6 at *
            try simp only [Act.put, List.setIfInBounds_toArray, List.set_cons_zero, List.set_cons_succ]
            refine wpAnyH_take (i := 7) (oi := _) (v := ?_) rfl (by kernel_rfl) (by kernel_rfl) (by kernel_rfl) (fun _ _ _ h => h) (Or.inl ⟨by rfl, ?_⟩) (by assumption) ?_
            rotate_left 1
            · (intro w hSw; (try dsimp only at hSw); go_simp; first | done | with_reducible rfl)
            try simp only [Act.put, List.setIfInBounds_toArray]
            refine wpAnyH_ready (rs := [10]) (by kernel_rfl) (by simp) ?_
            refine (AllReadyH.cons (o := _) rfl (fun K hK => ?_) AllReadyH.nil)
            obtain ⟨⟨z0, z1, z2, z3, z4, z5, z6, z7⟩, ⟨f0, f1, f2, f3, f4, f5, f6, f7⟩⟩ := cells8 (HL.out.b8 m8 rfl).1
            go_simp
            clear z0 z1 z2 z3 z4 z5 z6 z7 f0 f1 f2 f3 f4 f5 f6 f7
            refine hK.out _ _ ?_ (fun hHeld' => ?_)
            · exact HS.out _ (kput_keep (And.left hHeld) (HL.out.b8 m8 rfl).2 4 m2)
            clear hK K hHeld
            have hHeld := hHeld'
            clear hHeld'
            have HL' := HL.out.put8_
            unfold kput put8 at HL'
            clear HL
            have HL := Lib.hid HL'
            clear HL'
            generalize World.setCell _ _ _ = X5 at *
            try simp only [Act.put, List.setIfInBounds_toArray, List.set_cons_zero, List.set_cons_succ]
            refine wpAnyH_ready (rs := [11]) (by kernel_rfl) (by simp) ?_
            refine (AllReadyH.cons (o := _) rfl (fun K hK => ?_) AllReadyH.nil)
            obtain ⟨⟨z0, z1, z2, z3, z4, z5, z6, z7⟩, ⟨f0, f1, f2, f3, f4, f5, f6, f7⟩⟩ := cells8 (HL.out.b9 m9 rfl).1
            go_simp
            clear z0 z1 z2 z3 z4 z5 z6 z7 f0 f1 f2 f3 f4 f5 f6 f7
            refine hK.out _ _ ?_ (fun hHeld' => ?_)
            · exact HS.out _ (kput_keep (And.left hHeld) (HL.out.b9 m9 rfl).2 3 m6)
            clear hK K hHeld
            have hHeld := hHeld'
            clear hHeld'
            have HL' := HL.out.put9_
            unfold kput put8 at HL'
            clear HL
            have HL := Lib.hid HL'
            clear HL'
            generalize World.setCell _ _ _ = X6 at *
            try simp only [Act.put, List.setIfInBounds_toArray, List.set_cons_zero, List.set_cons_succ]
            refine wpAnyH_done (by kernel_rfl) ?_ _
            refine NoPanic.normal ?_
            have HPR := Lib.hid (HL.out.par)
            clear hHeld HL
            go_wp2_with fail
            go_meet
            case rel => exact ⟨m8, m9, m2, m6, rfl, rfl, HPR.out⟩
          · obtain ⟨⟨z0, z1, z2, z3, z4, z5, z6, z7⟩, ⟨f0, f1, f2, f3, f4, f5, f6, f7⟩⟩ := cells8 (HL.out.b8 m8 rfl).1
            go_simp
            clear z0 z1 z2 z3 z4 z5 z6 z7 f0 f1 f2 f3 f4 f5 f6 f7
            refine hK.out _ _ ?_ (fun hHeld' => ?_)
            · exact HS.out _ (kput_keep (And.left hHeld) (HL.out.b8 m8 rfl).2 4 m2)
            clear hK K hHeld
            have hHeld := hHeld'
            clear hHeld'
            have HL' := HL.out.put8_
            unfold kput put8 at HL'
            clear HL
            have HL := Lib.hid HL'
            clear HL'
            generalize World.setCell _ _ _ = X4 at *
            try simp only [Act.put, List.setIfInBounds_toArray, List.set_cons_zero, List.set_cons_succ]
            refine wpAnyH_ready (rs := [6]) (by kernel_rfl) (by simp) ?_
            refine (AllReadyH.cons (o := _) rfl (fun K hK => ?_) AllReadyH.nil)
            go_simp
            refine hK.out _ _ ?_ (fun hHeld' => ?_)
            · exact HS.out _ (Keep.alloc (And.left hHeld) _)
            clear hK K hHeld
            have hHeld := hHeld'
            clear hHeld'
            have HL' := Lib.hid HL.out.alloc6
            clear HL
            have HL := HL'
            clear HL'
            generalize World.alloc X4 _ = X5 at *
            generalize X4.heap.size = m6 at *
            try simp only [Act.put, List.setIfInBounds_toArray, List.set_cons_zero, List.set_cons_succ]
            refine wpAnyH_take (i := 7) (oi := _) (v := ?_) rfl (by kernel_rfl) (by kernel_rfl) (by kernel_rfl) (fun _ _ _ h => h) (Or.inl ⟨by rfl, ?_⟩) (by assumption) ?_
            rotate_left 1
            · (intro w hSw; (try dsimp only at hSw); go_simp; first | done | with_reducible rfl)
            try simp only [Act.put, List.setIfInBounds_toArray]
            refine wpAnyH_ready (rs := [11]) (by kernel_rfl) (by simp) ?_
            refine (AllReadyH.cons (o := _) rfl (fun K hK => ?_) AllReadyH.nil)
            obtain ⟨⟨z0, z1, z2, z3, z4, z5, z6, z7⟩, ⟨f0, f1, f2, f3, f4, f5, f6, f7⟩⟩ := cells8 (HL.out.b9 m9 rfl).1
            go_simp
            clear z0 z1 z2 z3 z4 z5 z6 z7 f0 f1 f2 f3 f4 f5 f6 f7
            refine hK.out _ _ ?_ (fun hHeld' => ?_)
            · exact HS.out _ (kput_keep (And.left hHeld) (HL.out.b9 m9 rfl).2 3 m6)
            clear hK K hHeld
            have hHeld := hHeld'
            clear hHeld'
            have HL' := HL.out.put9_
            unfold kput put8 at HL'
            clear HL
            have HL := Lib.hid HL'
            clear HL'
            generalize World.setCell _ _ _ = X6 at *
            try simp only [Act.put, List.setIfInBounds_toArray, List.set_cons_zero, List.set_cons_succ]
            refine wpAnyH_done (by kernel_rfl) ?_ _
            refine NoPanic.normal ?_
            have HPR := Lib.hid (HL.out.par)
            clear hHeld HL
            go_wp2_with fail
            go_meet
            case rel => exact ⟨m8, m9, m2, m6, rfl, rfl, HPR.out⟩
        · go_simp
          refine hK.out _ _ ?_ (fun hHeld' => ?_)
          · exact HS.out _ (Keep.alloc (And.left hHeld) _)
          clear hK K hHeld
          have hHeld := hHeld'
          clear hHeld'
          have HL' := Lib.hid HL.out.alloc6
          clear HL
          have HL := HL'
          clear HL'
          generalize World.alloc X2 _ = X3 at *
          generalize X2.heap.size = m6 at *
          try simp only [Act.put, List.setIfInBounds_toArray, List.set_cons_zero, List.set_cons_succ]
          refine wpAnyH_take (i := 7) (oi := _) (v := ?_) rfl (by kernel_rfl) (by kernel_rfl) (by kernel_rfl) (fun _ _ _ h => h) (Or.inl ⟨by rfl, ?_⟩) (by assumption) ?_
          rotate_left 1
          · (intro w hSw; (try dsimp only at hSw); go_simp; first | done | with_reducible rfl)
          try simp only [Act.put, List.setIfInBounds_toArray]
          refine wpAnyH_ready (rs := [2]) (by kernel_rfl) (by simp) ?_
          refine (AllReadyH.cons (o := _) rfl (fun K hK => ?_) AllReadyH.nil)
          go_simp
          refine hK.out _ _ ?_ (fun hHeld' => ?_)
          · exact HS.out _ (Keep.alloc (And.left hHeld) _)
          clear hK K hHeld
          have hHeld := hHeld'
          clear hHeld'
          have HL' := Lib.hid HL.out.alloc2
          clear HL
          have HL := HL'
          clear HL'
          generalize World.alloc X3 _ = X4 at *
          generalize X3.heap.size = m2 at *
          try simp only [Act.put, List.setIfInBounds_toArray, List.set_cons_zero, List.set_cons_succ]
          refine wpAnyH_take (i := 3) (oi := _) (v := ?_) rfl (by kernel_rfl) (by kernel_rfl) (by kernel_rfl) (fun _ _ _ h => h) (Or.inl ⟨by rfl, ?_⟩) (by assumption) ?_
          rotate_left 1
          · (intro w hSw; (try dsimp only at hSw); go_simp; first | done | with_reducible rfl)
          try simp only [Act.put, List.setIfInBounds_toArray]
          refine wpAnyH_ready (rs := [10]) (by kernel_rfl) (by simp) ?_
          refine (AllReadyH.cons (o := _) rfl (fun K hK => ?_) AllReadyH.nil)
          obtain ⟨⟨z0, z1, z2, z3, z4, z5, z6, z7⟩, ⟨f0, f1, f2, f3, f4, f5, f6, f7⟩⟩ := cells8 (HL.out.b8 m8 rfl).1
          go_simp
          clear z0 z1 z2 z3 z4 z5 z6 z7 f0 f1 f2 f3 f4 f5 f6 f7
          refine hK.out _ _ ?_ (fun hHeld' => ?_)
          · exact HS.out _ (kput_keep (And.left hHeld) (HL.out.b8 m8 rfl).2 4 m2)
          clear hK K hHeld
          have hHeld := hHeld'
          clear hHeld'
          have HL' := HL.out.put8_
          unfold kput put8 at HL'
          clear HL
          have HL := Lib.hid HL'
          clear HL'
          generalize World.setCell _ _ _ = X5 at *
          try simp only [Act.put, List.setIfInBounds_toArray, List.set_cons_zero, List.set_cons_succ]
          refine wpAnyH_ready (rs := [11]) (by kernel_rfl) (by simp) ?_
          refine (AllReadyH.cons (o := _) rfl (fun K hK => ?_) AllReadyH.nil)
          obtain ⟨⟨z0, z1, z2, z3, z4, z5, z6, z7⟩, ⟨f0, f1, f2, f3, f4, f5, f6, f7⟩⟩ := cells8 (HL.out.b9 m9 rfl).1
          go_simp
          clear z0 z1 z2 z3 z4 z5 z6 z7 f0 f1 f2 f3 f4 f5 f6 f7
          refine hK.out _ _ ?_ (fun hHeld' => ?_)
          · exact HS.out _ (kput_keep (And.left hHeld) (HL.out.b9 m9 rfl).2 3 m6)
          clear hK K hHeld
          have hHeld := hHeld'
          clear hHeld'
          have HL' := HL.out.put9_
          unfold kput put8 at HL'
          clear HL
          have HL := Lib.hid HL'
          clear HL'
          generalize World.setCell _ _ _ = X6 at *
          try simp only [Act.put, List.setIfInBounds_toArray, List.set_cons_zero, List.set_cons_succ]
          refine wpAnyH_done (by kernel_rfl) ?_ _
          refine NoPanic.normal ?_
          have HPR := Lib.hid (HL.out.par)
          clear hHeld HL
          go_wp2_with fail
          go_meet
          case rel => exact ⟨m8, m9, m2, m6, rfl, rfl, HPR.out⟩
    · go_simp
      refine hK.out _ _ ?_ (fun hHeld' => ?_)
      · exact HS.out _ (Keep.alloc (And.left hHeld) _)
      clear hK K hHeld
      have hHeld := hHeld'
      clear hHeld'
      have HL' := Lib.hid HL.out.alloc9
      clear HL
      have HL := HL'
      clear HL'
      generalize World.alloc X0 _ = X1 at *
      generalize X0.heap.size = m9 at *
      try simp only [Act.put, List.setIfInBounds_toArray, List.set_cons_zero, List.set_cons_succ]
      refine wpAnyH_ready (rs := [2, 6, 8]) (by kernel_rfl) (by simp) ?_
      refine (AllReadyH.cons (o := _) rfl (fun K hK => ?_) (AllReadyH.cons (o := _) rfl (fun K hK => ?_) (AllReadyH.cons (o := _) rfl (fun K hK => ?_) AllReadyH.nil)))
      · go_simp
        refine hK.out _ _ ?_ (fun hHeld' => ?_)
        · exact HS.out _ (Keep.alloc (And.left hHeld) _)
        clear hK K hHeld
        have hHeld := hHeld'
        clear hHeld'
        have HL' := Lib.hid HL.out.alloc2
        clear HL
        have HL := HL'
        clear HL'
        generalize World.alloc X1 _ = X2 at *
        generalize X1.heap.size = m2 at *
        try simp only [Act.put, List.setIfInBounds_toArray, List.set_cons_zero, List.set_cons_succ]
        refine wpAnyH_take (i := 3) (oi := _) (v := ?_) rfl (by kernel_rfl) (by kernel_rfl) (by kernel_rfl) (fun _ _ _ h => h) (Or.inl ⟨by rfl, ?_⟩) (by assumption) ?_
        rotate_left 1
        · (intro w hSw; (try dsimp only at hSw); go_simp; first | done | with_reducible rfl)
        try simp only [Act.put, List.setIfInBounds_toArray]
        refine wpAnyH_ready (rs := [6, 8]) (by kernel_rfl) (by simp) ?_
        refine (AllReadyH.cons (o := _) rfl (fun K hK => ?_) (AllReadyH.cons (o := _) rfl (fun K hK => ?_) AllReadyH.nil))
        · go_simp
          refine hK.out _ _ ?_ (fun hHeld' => ?_)
          · exact HS.out _ (Keep.alloc (And.left hHeld) _)
          clear hK K hHeld
          have hHeld := hHeld'
          clear hHeld'
          have HL' := Lib.hid HL.out.alloc6
          clear HL
          have HL := HL'
          clear HL'
          generalize World.alloc X2 _ = X3 at *
          generalize X2.heap.size = m6 at *
          try simp only [Act.put, List.setIfInBounds_toArray, List.set_cons_zero, List.set_cons_succ]
          refine wpAnyH_take (i := 7) (oi := _) (v := ?_) rfl (by kernel_rfl) (by kernel_rfl) (by kernel_rfl) (fun _ _ _ h => h) (Or.inl ⟨by rfl, ?_⟩) (by assumption) ?_
          rotate_left 1
          · (intro w hSw; (try dsimp only at hSw); go_simp; first | done | with_reducible rfl)
          try simp only [Act.put, List.setIfInBounds_toArray]
          refine wpAnyH_ready (rs := [8]) (by kernel_rfl) (by simp) ?_
          refine (AllReadyH.cons (o := _) rfl (fun K hK => ?_) AllReadyH.nil)
          go_simp
          refine hK.out _ _ ?_ (fun hHeld' => ?_)
          · exact HS.out _ (Keep.alloc (And.left hHeld) _)
          clear hK K hHeld
          have hHeld := hHeld'
          clear hHeld'
          have HL' := Lib.hid HL.out.alloc8
          clear HL
          have HL := HL'
          clear HL'
          generalize World.alloc X3 _ = X4 at *
          generalize X3.heap.size = m8 at *
          try simp only [Act.put, List.setIfInBounds_toArray, List.set_cons_zero, List.set_cons_succ]
          refine wpAnyH_ready (rs := [10]) (by kernel_rfl) (by simp) ?_
          refine (AllReadyH.cons (o := _) rfl (fun K hK => ?_) AllReadyH.nil)
          obtain ⟨⟨z0, z1, z2, z3, z4, z5, z6, z7⟩, ⟨f0, f1, f2, f3, f4, f5, f6, f7⟩⟩ := cells8 (HL.out.b8 m8 rfl).1
          go_simp
          clear z0 z1 z2 z3 z4 z5 z6 z7 f0 f1 f2 f3 f4 f5 f6 f7
          refine hK.out _ _ ?_ (fun hHeld' => ?_)
          · exact HS.out _ (kput_keep (And.left hHeld) (HL.out.b8 m8 rfl).2 4 m2)
          clear hK K hHeld
          have hHeld := hHeld'
          clear hHeld'
          have HL' := HL.out.put8_
          unfold kput put8 at HL'
          clear HL
          have HL := Lib.hid HL'
          clear HL'
          generalize World.setCell _ _ _ = X5 at *
          try simp only [Act.put, List.setIfInBounds_toArray, List.set_cons_zero, List.set_cons_succ]
          refine wpAnyH_ready (rs := [11]) (by kernel_rfl) (by simp) ?_
          refine (AllReadyH.cons (o := _) rfl (fun K hK => ?_) AllReadyH.nil)
          obtain ⟨⟨z0, z1, z2, z3, z4, z5, z6, z7⟩, ⟨f0, f1, f2, f3, f4, f5, f6, f7⟩⟩ := cells8 (HL.out.b9 m9 rfl).1
          go_simp
          clear z0 z1 z2 z3 z4 z5 z6 z7 f0 f1 f2 f3 f4 f5 f6 f7
          refine hK.out _ _ ?_ (fun hHeld' => ?_)
          · exact HS.out _ (kput_keep (And.left hHeld) (HL.out.b9 m9 rfl).2 3 m6)
          clear hK K hHeld
          have hHeld := hHeld'
          clear hHeld'
          have HL' := HL.out.put9_
          unfold kput put8 at HL'
          clear HL
          have HL := Lib.hid HL'
          clear HL'
          generalize World.setCell _ _ _ = X6 at *
          try simp only [Act.put, List.setIfInBounds_toArray, List.set_cons_zero, List.set_cons_succ]
          refine wpAnyH_done (by kernel_rfl) ?_ _
          refine NoPanic.normal ?_
          have HPR := Lib.hid (HL.out.par)
          clear hHeld HL
          go_wp2_with fail
          go_meet
          case rel => exact ⟨m8, m9, m2, m6, rfl, rfl, HPR.out⟩
        · go_simp
          refine hK.out _ _ ?_ (fun hHeld' => ?_)
          · exact HS.out _ (Keep.alloc (And.left hHeld) _)
          clear hK K hHeld
          have hHeld := hHeld'
          clear hHeld'
          have HL' := Lib.hid HL.out.alloc8
          clear HL
          have HL := HL'
          clear HL'
          generalize World.alloc X2 _ = X3 at *
          generalize X2.heap.size = m8 at *
          try simp only [Act.put, List.setIfInBounds_toArray, List.set_cons_zero, List.set_cons_succ]
          refine wpAnyH_ready (rs := [6, 10]) (by kernel_rfl) (by simp) ?_
          refine (AllReadyH.cons (o := _) rfl (fun K hK => ?_) (AllReadyH.cons (o := _) rfl (fun K hK => ?_) AllReadyH.nil))
          · go_simp
            refine hK.out _ _ ?_ (fun hHeld' => ?_)
            · exact HS.out _ (Keep.alloc (And.left hHeld) _)
            clear hK K hHeld
            have hHeld := hHeld'
            clear hHeld'
            have HL' := Lib.hid HL.out.alloc6
            clear HL
            have HL := HL'
            clear HL'
            generalize World.alloc X3 _ = X4 at *
            generalize X3.heap.size = m6 at *
            try simp only [Act.put, List.setIfInBounds_toArray, List.set_cons_zero, List.set_cons_succ]
            refine wpAnyH_take (i := 7) (oi := _) (v := ?_) rfl (by kernel_rfl) (by kernel_rfl) (by kernel_rfl) (fun _ _ _ h => h) (Or.inl ⟨by rfl, ?_⟩) (by assumption) ?_
            rotate_left 1
            · (intro w hSw; (try dsimp only at hSw); go_simp; first | done | with_reducible rfl)
            try simp only [Act.put, List.setIfInBounds_toArray]
            refine wpAnyH_ready (rs := [10]) (by kernel_rfl) (by simp) ?_
            refine (AllReadyH.cons (o := _) rfl (fun K hK => ?_) AllReadyH.nil)
            obtain ⟨⟨z0, z1, z2, z3, z4, z5, z6, z7⟩, ⟨f0, f1, f2, f3, f4, f5, f6, f7⟩⟩ := cells8 (HL.out.b8 m8 rfl).1
            go_simp
            clear z0 z1 z2 z3 z4 z5 z6 z7 f0 f1 f2 f3 f4 f5 f6 f7
            refine hK.out _ _ ?_ (fun hHeld' => ?_)
            · exact HS.out _ (kput_keep (And.left hHeld) (HL.out.b8 m8 rfl).2 4 m2)
            clear hK K hHeld
            have hHeld := hHeld'
            clear hHeld'
            have HL' := HL.out.put8_
            unfold kput put8 at HL'
            clear HL
            have HL := Lib.hid HL'
            clear HL'
            generalize World.setCell _ _ _ = X5 at *
            try simp only [Act.put, List.setIfInBounds_toArray, List.set_cons_zero, List.set_cons_succ]
            refine wpAnyH_ready (rs := [11]) (by kernel_rfl) (by simp) ?_
            refine (AllReadyH.cons (o := _) rfl (fun K hK => ?_) AllReadyH.nil)
            obtain ⟨⟨z0, z1, z2, z3, z4, z5, z6, z7⟩, ⟨f0, f1, f2, f3, f4, f5, f6, f7⟩⟩ := cells8 (HL.out.b9 m9 rfl).1
            go_simp
            clear z0 z1 z2 z3 z4 z5 z6 z7 f0 f1 f2 f3 f4 f5 f6 f7
            refine hK.out _ _ ?_ (fun hHeld' => ?_)
            · exact HS.out _ (kput_keep (And.left hHeld) (HL.out.b9 m9 rfl).2 3 m6)
            clear hK K hHeld
            have hHeld := hHeld'
            clear hHeld'
            have HL' := HL.out.put9_
            unfold kput put8 at HL'
            clear HL
            have HL := Lib.hid HL'
            clear HL'
            generalize World.setCell _ _ _ = X6 at *
            try simp only [Act.put, List.setIfInBounds_toArray, List.set_cons_zero, List.set_cons_succ]
            refine wpAnyH_done (by kernel_rfl) ?_ _
            refine NoPanic.normal ?_
            have HPR := Lib.hid (HL.out.par)
            clear hHeld HL
            go_wp2_with fail
            go_meet
            case rel => exact ⟨m8, m9, m2, m6, rfl, rfl, HPR.out⟩
          · obtain ⟨⟨z0, z1, z2, z3, z4, z5, z6, z7⟩, ⟨f0, f1, f2, f3, f4, f5, f6, f7⟩⟩ := cells8 (HL.out.b8 m8 rfl).1
            go_simp
            clear z0 z1 z2 z3 z4 z5 z6 z7 f0 f1 f2 f3 f4 f5 f6 f7
            refine hK.out _ _ ?_ (fun hHeld' => ?_)
            · exact HS.out _ (kput_keep (And.left hHeld) (HL.out.b8 m8 rfl).2 4 m2)
            clear hK K hHeld
            have hHeld := hHeld'
            clear hHeld'
            have HL' := HL.out.put8_
            unfold kput put8 at HL'
            clear HL
            have HL := Lib.hid HL'
            clear HL'
            generalize World.setCell _ _ _ = X4 at *
            try simp only [Act.put, List.setIfInBounds_toArray, List.set_cons_zero, List.set_cons_succ]
            refine wpAnyH_ready (rs := [6]) (by kernel_rfl) (by simp) ?_
            refine (AllReadyH.cons (o := _) rfl (fun K hK => ?_) AllReadyH.nil)
            go_simp
            refine hK.out _ _ ?_ (fun hHeld' => ?_)
            · exact HS.out _ (Keep.alloc (And.left hHeld) _)
            clear hK K hHeld
            have hHeld := hHeld'
            clear hHeld'
            have HL' := Lib.hid HL.out.alloc6
            clear HL
            have HL := HL'
            clear HL'
            generalize World.alloc X4 _ = X5 at *
            generalize X4.heap.size = m6 at *
            try simp only [Act.put, List.setIfInBounds_toArray, List.set_cons_zero, List.set_cons_succ]
            refine wpAnyH_take (i := 7) (oi := _) (v := ?_) rfl (by kernel_rfl) (by kernel_rfl) (by kernel_rfl) (fun _ _ _ h => h) (Or.inl ⟨by rfl, ?_⟩) (by assumption) ?_
            rotate_left 1
            · (intro w hSw; (try dsimp only at hSw); go_simp; first | done | with_reducible rfl)
            try simp only [Act.put, List.setIfInBounds_toArray]
            refine wpAnyH_ready (rs := [11]) (by kernel_rfl) (by simp) ?_
            refine (AllReadyH.cons (o := _) rfl (fun K hK => ?_) AllReadyH.nil)
            obtain ⟨⟨z0, z1, z2, z3, z4, z5, z6, z7⟩, ⟨f0, f1, f2, f3, f4, f5, f6, f7⟩⟩ := cells8 (HL.out.b9 m9 rfl).1
            go_simp
            clear z0 z1 z2 z3 z4 z5 z6 z7 f0 f1 f2 f3 f4 f5 f6 f7
            refine hK.out _ _ ?_ (fun hHeld' => ?_)
            · exact HS.out _ (kput_keep (And.left hHeld) (HL.out.b9 m9 rfl).2 3 m6)
            clear hK K hHeld
            have hHeld := hHeld'
            clear hHeld'
            have HL' := HL.out.put9_
            unfold kput put8 at HL'
            clear HL
            have HL := Lib.hid HL'
            clear HL'
            generalize World.setCell _ _ _ = X6 at *
            try simp only [Act.put, List.setIfInBounds_toArray, List.set_cons_zero, List.set_cons_succ]
            refine wpAnyH_done (by kernel_rfl) ?_ _
            refine NoPanic.normal ?_
            have HPR := Lib.hid (HL.out.par)
            clear hHeld HL
            go_wp2_with fail
            go_meet
            case rel => exact ⟨m8, m9, m2, m6, rfl, rfl, HPR.out⟩
      · go_simp
        refine hK.out _ _ ?_ (fun hHeld' => ?_)
        · exact HS.out _ (Keep.alloc (And.left hHeld) _)
        clear hK K hHeld
        have hHeld := hHeld'
        clear hHeld'
        have HL' := Lib.hid HL.out.alloc6
        clear HL
        have HL := HL'
        clear HL'
        generalize World.alloc X1 _ = X2 at *
        generalize X1.heap.size = m6 at *
        try simp only [Act.put, List.setIfInBounds_toArray, List.set_cons_zero, List.set_cons_succ]
        refine wpAnyH_take (i := 7) (oi := _) (v := ?_) rfl (by kernel_rfl) (by kernel_rfl) (by kernel_rfl) (fun _ _ _ h => h) (Or.inl ⟨by rfl, ?_⟩) (by assumption) ?_
        rotate_left 1
        · (intro w hSw; (try dsimp only at hSw); go_simp; first | done | with_reducible rfl)
        try simp only [Act.put, List.setIfInBounds_toArray]
        refine wpAnyH_ready (rs := [2, 8]) (by kernel_rfl) (by simp) ?_
        refine (AllReadyH.cons (o := _) rfl (fun K hK => ?_) (AllReadyH.cons (o := _) rfl (fun K hK => ?_) AllReadyH.nil))
        · go_simp
          refine hK.out _ _ ?_ (fun hHeld' => ?_)
          · exact HS.out _ (Keep.alloc (And.left hHeld) _)
          clear hK K hHeld
          have hHeld := hHeld'
          clear hHeld'
          have HL' := Lib.hid HL.out.alloc2
          clear HL
          have HL := HL'
          clear HL'
          generalize World.alloc X2 _ = X3 at *
          generalize X2.heap.size = m2 at *
          try simp only [Act.put, List.setIfInBounds_toArray, List.set_cons_zero, List.set_cons_succ]
          refine wpAnyH_take (i := 3) (oi := _) (v := ?_) rfl (by kernel_rfl) (by kernel_rfl) (by kernel_rfl) (fun _ _ _ h => h) (Or.inl ⟨by rfl, ?_⟩) (by assumption) ?_
          rotate_left 1
          · (intro w hSw; (try dsimp only at hSw); go_simp; first | done | with_reducible rfl)
          try simp only [Act.put, List.setIfInBounds_toArray]
          refine wpAnyH_ready (rs := [8]) (by kernel_rfl) (by simp) ?_
          refine (AllReadyH.cons (o := _) rfl (fun K hK => ?_) AllReadyH.nil)
          go_simp
          refine hK.out _ _ ?_ (fun hHeld' => ?_)
          · exact HS.out _ (Keep.alloc (And.left hHeld) _)
          clear hK K hHeld
          have hHeld := hHeld'
          clear hHeld'
          have HL' := Lib.hid HL.out.alloc8
          clear HL
          have HL := HL'
          clear HL'
          generalize World.alloc X3 _ = X4 at *
          generalize X3.heap.size = m8 at *
          try simp only [Act.put, List.setIfInBounds_toArray, List.set_cons_zero, List.set_cons_succ]
          refine wpAnyH_ready (rs := [10]) (by kernel_rfl) (by simp) ?_
          refine (AllReadyH.cons (o := _) rfl (fun K hK => ?_) AllReadyH.nil)
          obtain ⟨⟨z0, z1, z2, z3, z4, z5, z6, z7⟩, ⟨f0, f1, f2, f3, f4, f5, f6, f7⟩⟩ := cells8 (HL.out.b8 m8 rfl).1
          go_simp
          clear z0 z1 z2 z3 z4 z5 z6 z7 f0 f1 f2 f3 f4 f5 f6 f7
          refine hK.out _ _ ?_ (fun hHeld' => ?_)
          · exact HS.out _ (kput_keep (And.left hHeld) (HL.out.b8 m8 rfl).2 4 m2)
          clear hK K hHeld
          have hHeld := hHeld'
          clear hHeld'
          have HL' := HL.out.put8_
          unfold kput put8 at HL'
          clear HL
          have HL := Lib.hid HL'
          clear HL'
          generalize World.setCell _ _ _ = X5 at *
          try simp only [Act.put, List.setIfInBounds_toArray, List.set_cons_zero, List.set_cons_succ]
          refine wpAnyH_ready (rs := [11]) (by kernel_rfl) (by simp) ?_
          refine (AllReadyH.cons (o := _) rfl (fun K hK => ?_) AllReadyH.nil)
          obtain ⟨⟨z0, z1, z2, z3, z4, z5, z6, z7⟩, ⟨f0, f1, f2, f3, f4, f5, f6, f7⟩⟩ := cells8 (HL.out.b9 m9 rfl).1
          go_simp
          clear z0 z1 z2 z3 z4 z5 z6 z7 f0 f1 f2 f3 f4 f5 f6 f7
          refine hK.out _ _ ?_ (fun hHeld' => ?_)
          · exact HS.out _ (kput_keep (And.left hHeld) (HL.out.b9 m9 rfl).2 3 m6)
          clear hK K hHeld
          have hHeld := hHeld'
          clear hHeld'
          have HL' := HL.out.put9_
          unfold kput put8 at HL'
          clear HL
          have HL := Lib.hid HL'
          clear HL'
          generalize World.setCell _ _ _ = X6 at *
          try simp only [Act.put, List.setIfInBounds_toArray, List.set_cons_zero, List.set_cons_succ]
          refine wpAnyH_done (by kernel_rfl) ?_ _
          refine NoPanic.normal ?_
          have HPR := Lib.hid (HL.out.par)
          clear hHeld HL
          go_wp2_with fail
          go_meet
          case rel => exact ⟨m8, m9, m2, m6, rfl, rfl, HPR.out⟩
        · go_simp
          refine hK.out _ _ ?_ (fun hHeld' => ?_)
          · exact HS.out _ (Keep.alloc (And.left hHeld) _)
          clear hK K hHeld
          have hHeld := hHeld'
          clear hHeld'
          have HL' := Lib.hid HL.out.alloc8
          clear HL
          have HL := HL'
          clear HL'
          generalize World.alloc X2 _ = X3 at *
          generalize X2.heap.size = m8 at *
          try simp only [Act.put, List.setIfInBounds_toArray, List.set_cons_zero, List.set_cons_succ]
          refine wpAnyH_ready (rs := [2]) (by kernel_rfl) (by simp) ?_
          refine (AllReadyH.cons (o := _) rfl (fun K hK => ?_) AllReadyH.nil)
          go_simp
          refine hK.out _ _ ?_ (fun hHeld' => ?_)
          · exact HS.out _ (Keep.alloc (And.left hHeld) _)
          clear hK K hHeld
          have hHeld := hHeld'
          clear hHeld'
          have HL' := Lib.hid HL.out.alloc2
          clear HL
          have HL := HL'
          clear HL'
          generalize World.alloc X3 _ = X4 at *
          generalize X3.heap.size = m2 at *
          try simp only [Act.put, List.setIfInBounds_toArray, List.set_cons_zero, List.set_cons_succ]
          refine wpAnyH_take (i := 3) (oi := _) (v := ?_) rfl (by kernel_rfl) (by kernel_rfl) (by kernel_rfl) (fun _ _ _ h => h) (Or.inl ⟨by rfl, ?_⟩) (by assumption) ?_
          rotate_left 1
          · (intro w hSw; (try dsimp only at hSw); go_simp; first | done | with_reducible rfl)
          try simp only [Act.put, List.setIfInBounds_toArray]
          refine wpAnyH_ready (rs := [10]) (by kernel_rfl) (by simp) ?_
          refine (AllReadyH.cons (o := _) rfl (fun K hK => ?_) AllReadyH.nil)
          obtain ⟨⟨z0, z1, z2, z3, z4, z5, z6, z7⟩, ⟨f0, f1, f2, f3, f4, f5, f6, f7⟩⟩ := cells8 (HL.out.b8 m8 rfl).1
          go_simp
          clear z0 z1 z2 z3 z4 z5 z6 z7 f0 f1 f2 f3 f4 f5 f6 f7
          refine hK.out _ _ ?_ (fun hHeld' => ?_)
          · exact HS.out _ (kput_keep (And.left hHeld) (HL.out.b8 m8 rfl).2 4 m2)
          clear hK K hHeld
          have hHeld := hHeld'
          clear hHeld'
          have HL' := HL.out.put8_
          unfold kput put8 at HL'
          clear HL
          have HL := Lib.hid HL'
          clear HL'
          generalize World.setCell _ _ _ = X5 at *
          try simp only [Act.put, List.setIfInBounds_toArray, List.set_cons_zero, List.set_cons_succ]
          refine wpAnyH_ready (rs := [11]) (by kernel_rfl) (by simp) ?_
          refine (AllReadyH.cons (o := _) rfl (fun K hK => ?_) AllReadyH.nil)
          obtain ⟨⟨z0, z1, z2, z3, z4, z5, z6, z7⟩, ⟨f0, f1, f2, f3, f4, f5, f6, f7⟩⟩ := cells8 (HL.out.b9 m9 rfl).1
          go_simp
          clear z0 z1 z2 z3 z4 z5 z6 z7 f0 f1 f2 f3 f4 f5 f6 f7
          refine hK.out _ _ ?_ (fun hHeld' => ?_)
          · exact HS.out _ (kput_keep (And.left hHeld) (HL.out.b9 m9 rfl).2 3 m6)
          clear hK K hHeld
          have hHeld := hHeld'
          clear hHeld'
          have HL' := HL.out.put9_
          unfold kput put8 at HL'
          clear HL
          have HL := Lib.hid HL'
          clear HL'
          generalize World.setCell _ _ _ = X6 at *
          try simp only [Act.put, List.setIfInBounds_toArray, List.set_cons_zero, List.set_cons_succ]
          refine wpAnyH_done (by kernel_rfl) ?_ _
          refine NoPanic.normal ?_
          have HPR := Lib.hid (HL.out.par)
          clear hHeld HL
          go_wp2_with fail
          go_meet
          case rel => exact ⟨m8, m9, m2, m6, rfl, rfl, HPR.out⟩
      · go_simp
        refine hK.out _ _ ?_ (fun hHeld' => ?_)
        · exact HS.out _ (Keep.alloc (And.left hHeld) _)
        clear hK K hHeld
        have hHeld := hHeld'
        clear hHeld'
        have HL' := Lib.hid HL.out.alloc8
        clear HL
        have HL := HL'
        clear HL'
        generalize World.alloc X1 _ = X2 at *
        generalize X1.heap.size = m8 at *
        try simp only [Act.put, List.setIfInBounds_toArray, List.set_cons_zero, List.set_cons_succ]
        refine wpAnyH_ready (rs := [2, 6]) (by kernel_rfl) (by simp) ?_
        refine (AllReadyH.cons (o := _) rfl (fun K hK => ?_) (AllReadyH.cons (o := _) rfl (fun K hK => ?_) AllReadyH.nil))
        · go_simp
          refine hK.out _ _ ?_ (fun hHeld' => ?_)
          · exact HS.out _ (Keep.alloc (And.left hHeld) _)
          clear hK K hHeld
          have hHeld := hHeld'
          clear hHeld'
          have HL' := Lib.hid HL.out.alloc2
          clear HL
          have HL := HL'
          clear HL'
          generalize World.alloc X2 _ = X3 at *
          generalize X2.heap.size = m2 at *
          try simp only [Act.put, List.setIfInBounds_toArray, List.set_cons_zero, List.set_cons_succ]
          refine wpAnyH_take (i := 3) (oi := _) (v := ?_) rfl (by kernel_rfl) (by kernel_rfl) (by kernel_rfl) (fun _ _ _ h => h) (Or.inl ⟨by rfl, ?_⟩) (by assumption) ?_
          rotate_left 1
          · (intro w hSw; (try dsimp only at hSw); go_simp; first | done | with_reducible rfl)
          try simp only [Act.put, List.setIfInBounds_toArray]
          refine wpAnyH_ready (rs := [6, 10]) (by kernel_rfl) (by simp) ?_
          refine (AllReadyH.cons (o := _) rfl (fun K hK => ?_) (AllReadyH.cons (o := _) rfl (fun K hK => ?_) AllReadyH.nil))
          · go_simp
            refine hK.out _ _ ?_ (fun hHeld' => ?_)
            · exact HS.out _ (Keep.alloc (And.left hHeld) _)
            clear hK K hHeld
            have hHeld := hHeld'
            clear hHeld'
            have HL' := Lib.hid HL.out.alloc6
            clear HL
            have HL := HL'
            clear HL'
            generalize World.alloc X3 _ = X4 at *
            generalize X3.heap.size = m6 at *
            try simp only [Act.put, List.setIfInBounds_toArray, List.set_cons_zero, List.set_cons_succ]
            refine wpAnyH_take (i := 7) (oi := _) (v := ?_) rfl (by kernel_rfl) (by kernel_rfl) (by kernel_rfl) (fun _ _ _ h => h) (Or.inl ⟨by rfl, ?_⟩) (by assumption) ?_
            rotate_left 1
            · (intro w hSw; (try dsimp only at hSw); go_simp; first | done | with_reducible rfl)
            try simp only [Act.put, List.setIfInBounds_toArray]
            refine wpAnyH_ready (rs := [10]) (by kernel_rfl) (by simp) ?_
            refine (AllReadyH.cons (o := _) rfl (fun K hK => ?_) AllReadyH.nil)
            obtain ⟨⟨z0, z1, z2, z3, z4, z5, z6, z7⟩, ⟨f0, f1, f2, f3, f4, f5, f6, f7⟩⟩ := cells8 (HL.out.b8 m8 rfl).1
            go_simp
            clear z0 z1 z2 z3 z4 z5 z6 z7 f0 f1 f2 f3 f4 f5 f6 f7
            refine hK.out _ _ ?_ (fun hHeld' => ?_)
            · exact HS.out _ (kput_keep (And.left hHeld) (HL.out.b8 m8 rfl).2 4 m2)
            clear hK K hHeld
            have hHeld := hHeld'
            clear hHeld'
            have HL' := HL.out.put8_
            unfold kput put8 at HL'
            clear HL
            have HL := Lib.hid HL'
            clear HL'
            generalize World.setCell _ _ _ = X5 at *
            try simp only [Act.put, List.setIfInBounds_toArray, List.set_cons_zero, List.set_cons_succ]
            refine wpAnyH_ready (rs := [11]) (by kernel_rfl) (by simp) ?_
            refine (AllReadyH.cons (o := _) rfl (fun K hK => ?_) AllReadyH.nil)
            obtain ⟨⟨z0, z1, z2, z3, z4, z5, z6, z7⟩, ⟨f0, f1, f2, f3, f4, f5, f6, f7⟩⟩ := cells8 (HL.out.b9 m9 rfl).1
            go_simp
            clear z0 z1 z2 z3 z4 z5 z6 z7 f0 f1 f2 f3 f4 f5 f6 f7
            refine hK.out _ _ ?_ (fun hHeld' => ?_)
            · exact HS.out _ (kput_keep (And.left hHeld) (HL.out.b9 m9 rfl).2 3 m6)
            clear hK K hHeld
            have hHeld := hHeld'
            clear hHeld'
            have HL' := HL.out.put9_
            unfold kput put8 at HL'
            clear HL
            have HL := Lib.hid HL'
            clear HL'
            generalize World.setCell _ _ _ = X6 at *
            try simp only [Act.put, List.setIfInBounds_toArray, List.set_cons_zero, List.set_cons_succ]
            refine wpAnyH_done (by kernel_rfl) ?_ _
            refine NoPanic.normal ?_
            have HPR := Lib.hid (HL.out.par)
            clear hHeld HL
            go_wp2_with fail
            go_meet
            case rel => exact ⟨m8, m9, m2, m6, rfl, rfl, HPR.out⟩
          · obtain ⟨⟨z0, z1, z2, z3, z4, z5, z6, z7⟩, ⟨f0, f1, f2, f3, f4, f5, f6, f7⟩⟩ := cells8 (HL.out.b8 m8 rfl).1
            go_simp
            clear z0 z1 z2 z3 z4 z5 z6 z7 f0 f1 f2 f3 f4 f5 f6 f7
            refine hK.out _ _ ?_ (fun hHeld' => ?_)
            · exact HS.out _ (kput_keep (And.left hHeld) (HL.out.b8 m8 rfl).2 4 m2)
            clear hK K hHeld
            have hHeld := hHeld'
            clear hHeld'
            have HL' := HL.out.put8_
            unfold kput put8 at HL'
            clear HL
            have HL := Lib.hid HL'
            clear HL'
            generalize World.setCell _ _ _ = X4 at *
            try simp only [Act.put, List.setIfInBounds_toArray, List.set_cons_zero, List.set_cons_succ]
            refine wpAnyH_ready (rs := [6]) (by kernel_rfl) (by simp) ?_
            refine (AllReadyH.cons (o := _) rfl (fun K hK => ?_) AllReadyH.nil)
            go_simp
            refine hK.out _ _ ?_ (fun hHeld' => ?_)
            · exact HS.out _ (Keep.alloc (And.left hHeld) _)
            clear hK K hHeld
            have hHeld := hHeld'
            clear hHeld'
            have HL' := Lib.hid HL.out.alloc6
            clear HL
            have HL := HL'
            clear HL'
            generalize World.alloc X4 _ = X5 at *
            generalize X4.heap.size = m6 at *
            try simp only [Act.put, List.setIfInBounds_toArray, List.set_cons_zero, List.set_cons_succ]
            refine wpAnyH_take (i := 7) (oi := _) (v := ?_) rfl (by kernel_rfl) (by kernel_rfl) (by kernel_rfl) (fun _ _ _ h => h) (Or.inl ⟨by rfl, ?_⟩) (by assumption) ?_
            rotate_left 1
            · (intro w hSw; (try dsimp only at hSw); go_simp; first | done | with_reducible rfl)
            try simp only [Act.put, List.setIfInBounds_toArray]
            refine wpAnyH_ready (rs := [11]) (by kernel_rfl) (by simp) ?_
            refine (AllReadyH.cons (o := _) rfl (fun K hK => ?_) AllReadyH.nil)
            obtain ⟨⟨z0, z1, z2, z3, z4, z5, z6, z7⟩, ⟨f0, f1, f2, f3, f4, f5, f6, f7⟩⟩ := cells8 (HL.out.b9 m9 rfl).1
            go_simp
            clear z0 z1 z2 z3 z4 z5 z6 z7 f0 f1 f2 f3 f4 f5 f6 f7
            refine hK.out _ _ ?_ (fun hHeld' => ?_)
            · exact HS.out _ (kput_keep (And.left hHeld) (HL.out.b9 m9 rfl).2 3 m6)
            clear hK K hHeld
            have hHeld := hHeld'
            clear hHeld'
            have HL' := HL.out.put9_
            unfold kput put8 at HL'
            clear HL
            have HL := Lib.hid HL'
            clear HL'
            generalize World.setCell _ _ _ = X6 at *
            try simp only [Act.put, List.setIfInBounds_toArray, List.set_cons_zero, List.set_cons_succ]
            refine wpAnyH_done (by kernel_rfl) ?_ _
            refine NoPanic.normal ?_
            have HPR := Lib.hid (HL.out.par)
            clear hHeld HL
            go_wp2_with fail
            go_meet
            case rel => exact ⟨m8, m9, m2, m6, rfl, rfl, HPR.out⟩
        · go_simp
          refine hK.out _ _ ?_ (fun hHeld' => ?_)
          · exact HS.out _ (Keep.alloc (And.left hHeld) _)
          clear hK K hHeld
          have hHeld := hHeld'
          clear hHeld'
          have HL' := Lib.hid HL.out.alloc6
          clear HL
          have HL := HL'
          clear HL'
          generalize World.alloc X2 _ = X3 at *
          generalize X2.heap.size = m6 at *
          try simp only [Act.put, List.setIfInBounds_toArray, List.set_cons_zero, List.set_cons_succ]
          refine wpAnyH_take (i := 7) (oi := _) (v := ?_) rfl (by kernel_rfl) (by kernel_rfl) (by kernel_rfl) (fun _ _ _ h => h) (Or.inl ⟨by rfl, ?_⟩) (by assumption) ?_
          rotate_left 1
          · (intro w hSw; (try dsimp only at hSw); go_simp; first | done | with_reducible rfl)
          try simp only [Act.put, List.setIfInBounds_toArray]
          refine wpAnyH_ready (rs := [2]) (by kernel_rfl) (by simp) ?_
          refine (AllReadyH.cons (o := _) rfl (fun K hK => ?_) AllReadyH.nil)
          go_simp
          refine hK.out _ _ ?_ (fun hHeld' => ?_)
          · exact HS.out _ (Keep.alloc (And.left hHeld) _)
          clear hK K hHeld
          have hHeld := hHeld'
          clear hHeld'
          have HL' := Lib.hid HL.out.alloc2
          clear HL
          have HL := HL'
          clear HL'
          generalize World.alloc X3 _ = X4 at *
          generalize X3.heap.size = m2 at *
          try simp only [Act.put, List.setIfInBounds_toArray, List.set_cons_zero, List.set_cons_succ]
          refine wpAnyH_take (i := 3) (oi := _) (v := ?_) rfl (by kernel_rfl) (by kernel_rfl) (by kernel_rfl) (fun _ _ _ h => h) (Or.inl ⟨by rfl, ?_⟩) (by assumption) ?_
          rotate_left 1
          · (intro w hSw; (try dsimp only at hSw); go_simp; first | done | with_reducible rfl)
          try simp only [Act.put, List.setIfInBounds_toArray]
          refine wpAnyH_ready (rs := [10]) (by kernel_rfl) (by simp) ?_
          refine (AllReadyH.cons (o := _) rfl (fun K hK => ?_) AllReadyH.nil)
          obtain ⟨⟨z0, z1, z2, z3, z4, z5, z6, z7⟩, ⟨f0, f1, f2, f3, f4, f5, f6, f7⟩⟩ := cells8 (HL.out.b8 m8 rfl).1
          go_simp
          clear z0 z1 z2 z3 z4 z5 z6 z7 f0 f1 f2 f3 f4 f5 f6 f7
          refine hK.out _ _ ?_ (fun hHeld' => ?_)
          · exact HS.out _ (kput_keep (And.left hHeld) (HL.out.b8 m8 rfl).2 4 m2)
          clear hK K hHeld
          have hHeld := hHeld'
          clear hHeld'
          have HL' := HL.out.put8_
          unfold kput put8 at HL'
          clear HL
          have HL := Lib.hid HL'
          clear HL'
          generalize World.setCell _ _ _ = X5 at *
          try simp only [Act.put, List.setIfInBounds_toArray, List.set_cons_zero, List.set_cons_succ]
          refine wpAnyH_ready (rs := [11]) (by kernel_rfl) (by simp) ?_
          refine (AllReadyH.cons (o := _) rfl (fun K hK => ?_) AllReadyH.nil)
          obtain ⟨⟨z0, z1, z2, z3, z4, z5, z6, z7⟩, ⟨f0, f1, f2, f3, f4, f5, f6, f7⟩⟩ := cells8 (HL.out.b9 m9 rfl).1
          go_simp
          clear z0 z1 z2 z3 z4 z5 z6 z7 f0 f1 f2 f3 f4 f5 f6 f7
          refine hK.out _ _ ?_ (fun hHeld' => ?_)
          · exact HS.out _ (kput_keep (And.left hHeld) (HL.out.b9 m9 rfl).2 3 m6)
          clear hK K hHeld
          have hHeld := hHeld'
          clear hHeld'
          have HL' := HL.out.put9_
          unfold kput put8 at HL'
          clear HL
          have HL := Lib.hid HL'
          clear HL'
          generalize World.setCell _ _ _ = X6 at *
          try simp only [Act.put, List.setIfInBounds_toArray, List.set_cons_zero, List.set_cons_succ]
          refine wpAnyH_done (by kernel_rfl) ?_ _
          refine NoPanic.normal ?_
          have HPR := Lib.hid (HL.out.par)
          clear hHeld HL
          go_wp2_with fail
          go_meet
          case rel => exact ⟨m8, m9, m2, m6, rfl, rfl, HPR.out⟩
  case rest =>
    obtain ⟨p5, p6, s1, s2, rfl, rfl, hpar⟩ := hcut
    generalize wc = V0 at *
    have hLT : ∀ w', Keep (fun _ => False) V0 w' → Lie w' (fun _ => True) a t.subs := fun w' q' => H0.out.2.1.keepF (hpar.q.trans q')
    have hLU : ∀ w', Keep (fun _ => False) V0 w' → Lie w' (fun _ => True) b u.subs := fun w' q' => H0.out.2.2.1.keepF (hpar.q.trans q')
    have hLA : ∀ w', Keep (fun _ => False) V0 w' → Lie w' (fun _ => True) (some ⟨s1, 0, none⟩) [t, u] := fun w' q' => lie_row (hpar.r1.keep q' (fun h => h)) (hLT w' q') (hLU w' q') HCT.out.2.2.2.2.1 HCT.out.2.2.2.2.2
    have hLC : ∀ w', Keep (fun _ => False) V0 w' → Lie w' (fun _ => True) (some ⟨s2, 0, none⟩) [t, u] := fun w' q' => lie_row (hpar.r2.keep q' (fun h => h)) (hLT w' q') (hLU w' q') HCT.out.2.2.2.2.1 HCT.out.2.2.2.2.2
    have hS3 : ∀ w', Keep (fun _ => False) V0 w' → Keep (fun _ => False) V0 w' ∧ w'.cell? ⟨w.heap.size, 0, none⟩ = some (.int .i64 t.kind) ∧ w'.cell? ⟨w.heap.size, 1, none⟩ = some (.int .u64 t.set.x0) ∧ w'.cell? ⟨w.heap.size, 2, none⟩ = some (.int .u64 t.set.x1) ∧ w'.cell? ⟨w.heap.size, 3, none⟩ = some (.int .u64 t.set.x2) ∧ w'.cell? ⟨w.heap.size, 4, none⟩ = some (.int .u64 t.set.x3) ∧ w'.cell? ⟨w.heap.size, 5, none⟩ = some (.int .i64 t.mn) ∧ w'.cell? ⟨w.heap.size, 6, none⟩ = some (.int .i64 t.mx) ∧ w'.cell? ⟨w.heap.size, 7, none⟩ = some (.slice a t.subs.length c) ∧ w'.cell? ⟨(w.heap.size + 1), 0, none⟩ = some (.int .i64 u.kind) ∧ w'.cell? ⟨(w.heap.size + 1), 1, none⟩ = some (.int .u64 u.set.x0) ∧ w'.cell? ⟨(w.heap.size + 1), 2, none⟩ = some (.int .u64 u.set.x1) ∧ w'.cell? ⟨(w.heap.size + 1), 3, none⟩ = some (.int .u64 u.set.x2) ∧ w'.cell? ⟨(w.heap.size + 1), 4, none⟩ = some (.int .u64 u.set.x3) ∧ w'.cell? ⟨(w.heap.size + 1), 5, none⟩ = some (.int .i64 u.mn) ∧ w'.cell? ⟨(w.heap.size + 1), 6, none⟩ = some (.int .i64 u.mx) ∧ w'.cell? ⟨(w.heap.size + 1), 7, none⟩ = some (.slice b u.subs.length d) ∧ w'.cell? ⟨p5, 0, none⟩ = some (.int .i64 4) ∧ w'.cell? ⟨p5, 1, none⟩ = some (.int .u64 0) ∧ w'.cell? ⟨p5, 2, none⟩ = some (.int .u64 0) ∧ w'.cell? ⟨p5, 3, none⟩ = some (.int .u64 0) ∧ w'.cell? ⟨p5, 4, none⟩ = some (.int .u64 0) ∧ w'.cell? ⟨p5, 5, none⟩ = some (.int .i64 0) ∧ w'.cell? ⟨p5, 6, none⟩ = some (.int .i64 0) ∧ w'.cell? ⟨p5, 7, none⟩ = some (.slice (some ⟨s1, 0, none⟩) 2 2) ∧ w'.cell? ⟨p6, 0, none⟩ = some (.int .i64 3) ∧ w'.cell? ⟨p6, 1, none⟩ = some (.int .u64 0) ∧ w'.cell? ⟨p6, 2, none⟩ = some (.int .u64 0) ∧ w'.cell? ⟨p6, 3, none⟩ = some (.int .u64 0) ∧ w'.cell? ⟨p6, 4, none⟩ = some (.int .u64 0) ∧ w'.cell? ⟨p6, 5, none⟩ = some (.int .i64 0) ∧ w'.cell? ⟨p6, 6, none⟩ = some (.int .i64 0) ∧ w'.cell? ⟨p6, 7, none⟩ = some (.slice (some ⟨s2, 0, none⟩) 2 2) := fun w' q' => by
      obtain ⟨-, x0, x1, x2, x3, x4, x5, x6, x7, y0, y1, y2, y3, y4, y5, y6, y7⟩ := HS.out w' (hpar.q.trans q')
      obtain ⟨⟨v0, v1, v2, v3, v4, v5, v6, v7⟩, -⟩ := cells8 (hpar.b5.keep q' (fun h => h))
      obtain ⟨⟨k0, k1, k2, k3, k4, k5, k6, k7⟩, -⟩ := cells8 (hpar.b6.keep q' (fun h => h))
      exact ⟨q', x0, x1, x2, x3, x4, x5, x6, x7, y0, y1, y2, y3, y4, y5, y6, y7, v0, v1, v2, v3, v4, v5, v6, v7, k0, k1, k2, k3, k4, k5, k6, k7⟩
    have HL := Lib.hid (And.intro hLT (And.intro hLU (And.intro hLA hLC)))
    have HP := Lib.hid (H0.out.1.trans hpar.q)
    have H3 := Lib.hid hS3
    have K0 := Lib.hid (Keep.refl (fun _ => False) V0)
    clear hLT hLU hLA hLC hS3 hpar
    go_wp2_with fail
    refine (awake_true V0).mono ?_
    rintro e w1 ⟨rfl, q1⟩
    have K1 := Lib.hid q1
    clear q1
    obtain ⟨-, x0, x1, x2, x3, x4, x5, x6, x7, y0, y1, y2, y3, y4, y5, y6, y7, v0, v1, v2, v3, v4, v5, v6, v7, k0, k1, k2, k3, k4, k5, k6, k7⟩ := H3.out _ K1.out
    go_wp2_with fail
    refine (few_any (.nd 4 ST.none 0 0 [t, u]) HCT.out.2.2.1 _ 2 w1 (HL.out.2.2.1 _ K1.out)).mono ?_
    rintro e w2 ⟨rfl, q2⟩
    have K2 := Lib.hid (K1.out.trans q2)
    clear q2 x0 x1 x2 x3 x4 x5 x6 x7 y0 y1 y2 y3 y4 y5 y6 y7 v0 v1 v2 v3 v4 v5 v6 v7 k0 k1 k2 k3 k4 k5 k6 k7
    by_cases h1 : sz (.nd 4 ST.none 0 0 [t, u]) ≤ 200
    case neg =>
      have g1 : decide (sz (.nd 4 ST.none 0 0 [t, u]) ≤ 200) = false := decide_eq_false h1
      rw [g1]
      clear g1 h1
      go_wp2_with fail
      refine (awake_true w2).mono ?_
      rintro e w3 ⟨rfl, q3⟩
      have Q3 := Lib.hid (HP.out.trans (K2.out.trans q3))
      clear q3
      go_wp2_with fail
      go_ret
      exact ⟨rfl, Q3.out⟩
    have g1 : decide (sz (.nd 4 ST.none 0 0 [t, u]) ≤ 200) = true := decide_eq_true h1
    rw [g1]
    have HF1 := Lib.hid (few_cnt h1)
    clear g1 h1
    obtain ⟨-, x0, x1, x2, x3, x4, x5, x6, x7, y0, y1, y2, y3, y4, y5, y6, y7, v0, v1, v2, v3, v4, v5, v6, v7, k0, k1, k2, k3, k4, k5, k6, k7⟩ := H3.out _ K2.out
    go_wp2_with fail
    refine (fright_any (.nd 4 ST.none 0 0 [t, u]) HCT.out.2.2.1 _ 2 w2 (HL.out.2.2.1 _ K2.out)).mono ?_
    rintro e w3 ⟨rfl, q3⟩
    have K3 := Lib.hid (K2.out.trans q3)
    clear q3 x0 x1 x2 x3 x4 x5 x6 x7 y0 y1 y2 y3 y4 y5 y6 y7 v0 v1 v2 v3 v4 v5 v6 v7 k0 k1 k2 k3 k4 k5 k6 k7
    cases h3 : rightB (.nd 4 ST.none 0 0 [t, u]) with
    | false =>
      clear h3
      go_wp2_with fail
      refine (awake_true w3).mono ?_
      rintro e w4 ⟨rfl, q4⟩
      have Q4 := Lib.hid (HP.out.trans (K3.out.trans q4))
      clear q4
      go_wp2_with fail
      go_ret
      exact ⟨rfl, Q4.out⟩
    | true =>
    have HRA := Lib.hid ((rightB_iff HCT.out.1).1 h3)
    clear h3
    obtain ⟨-, x0, x1, x2, x3, x4, x5, x6, x7, y0, y1, y2, y3, y4, y5, y6, y7, v0, v1, v2, v3, v4, v5, v6, v7, k0, k1, k2, k3, k4, k5, k6, k7⟩ := H3.out _ K3.out
    go_wp2_with fail
    refine (fright_any (.nd 3 ST.none 0 0 [t, u]) HCT.out.2.2.2.1 _ 2 w3 (HL.out.2.2.2 _ K3.out)).mono ?_
    rintro e w4 ⟨rfl, q4⟩
    have K4 := Lib.hid (K3.out.trans q4)
    clear q4 x0 x1 x2 x3 x4 x5 x6 x7 y0 y1 y2 y3 y4 y5 y6 y7 v0 v1 v2 v3 v4 v5 v6 v7 k0 k1 k2 k3 k4 k5 k6 k7
    cases h4 : rightB (.nd 3 ST.none 0 0 [t, u]) with
    | false =>
      clear h4
      go_wp2_with fail
      refine (awake_true w4).mono ?_
      rintro e w5 ⟨rfl, q5⟩
      have Q5 := Lib.hid (HP.out.trans (K4.out.trans q5))
      clear q5
      go_wp2_with fail
      go_ret
      exact ⟨rfl, Q5.out⟩
    | true =>
    have hRC := (rightB_iff HCT.out.2.1).1 h4
    have hpt := pt_all HRA.out HF1.out
    have hcC : cnt (catT t u) ≤ 200 := by have := HF1.out; unfold catT; rw [cnt, cntL, cntL, cntL] at *; omega
    obtain ⟨BO, hBO⟩ : ∃ s, (firstS t).or (firstS u) = s := ⟨_, rfl⟩
    obtain ⟨FA, hFA⟩ : ∃ s, firstS t = s := ⟨_, rfl⟩
    obtain ⟨FB, hFB⟩ : ∃ s, firstS u = s := ⟨_, rfl⟩
    obtain ⟨nt, hnt⟩ : ∃ s, noneB t = s := ⟨_, rfl⟩
    obtain ⟨nu, hnu⟩ : ∃ s, noneB u = s := ⟨_, rfl⟩
    obtain ⟨zt, hzt⟩ : ∃ s, nullB t = s := ⟨_, rfl⟩
    obtain ⟨zu, hzu⟩ : ∃ s, nullB u = s := ⟨_, rfl⟩
    obtain ⟨WT, hWT⟩ : ∃ s, (if nt = true ∨ nu = true then ST.none else if zt = true then BO else FA) = s := ⟨_, rfl⟩
    obtain ⟨D, hD⟩ : ∃ s, wd (altT t u) = s := ⟨_, rfl⟩
    have hor : FA.or FB = BO := by rw [← hFA, ← hFB]; exact hBO
    have hoks : FA.Ok ∧ FB.Ok := ⟨by rw [← hFA]; exact first_ok hpt.rt, by rw [← hFB]; exact first_ok hpt.ru⟩
    rw [hBO, hFA, hnt, hnu, hzt, hWT] at hpt
    have k1 := fun W' q => first_r hpt.rt hpt.ct hFA a c W' (HL.out.1 W' q)
    have k2 := fun W' q => first_r hpt.ru hpt.cu hFB b d W' (HL.out.2.1 W' q)
    have k3 := fun W' q => first_r HRA.out HF1.out hpt.fa _ 2 W' (HL.out.2.2.1 W' q)
    have k4 := fun W' q => first_r hRC hcC hpt.fc _ 2 W' (HL.out.2.2.2 W' q)
    have k5 := fun W' q => null_r hpt.rt hpt.ct hzt a c W' (HL.out.1 W' q)
    have k6 := fun W' q => null_r hpt.ru hpt.cu hzu b d W' (HL.out.2.1 W' q)
    have k7 := fun W' q => null_r HRA.out HF1.out hpt.na _ 2 W' (HL.out.2.2.1 W' q)
    have k8 := fun W' q => null_r hRC hcC hpt.nc _ 2 W' (HL.out.2.2.2 W' q)
    have k9 := fun W' q => none_r hpt.rt hpt.ct hnt a c W' (HL.out.1 W' q)
    have k10 := fun W' q => none_r hpt.ru hpt.cu hnu b d W' (HL.out.2.1 W' q)
    have k11 := fun W' q => wide_r HRA.out hD _ 2 W' (HL.out.2.2.1 W' q)
    have k12 := fun W' q => wide_r hRC (hpt.wa.symm.trans hD) _ 2 W' (HL.out.2.2.2 W' q)
    rw [hzt, hzu] at k7 k8
    obtain ⟨za, hza⟩ : ∃ x, (zt || zu) = x := ⟨_, rfl⟩
    obtain ⟨zc, hzc⟩ : ∃ x, (zt && zu) = x := ⟨_, rfl⟩
    rw [hza] at k7
    rw [hzc] at k8
    have hways : (zt = true ∧ za = true ∧ zc = zu) ∨ (zt = false ∧ za = zu ∧ zc = false) := by
      rw [← hza, ← hzc]
      cases zt <;> cases zu <;> simp
    have HWY := Lib.hid hways
    clear hways hza hzc
    have HX := Lib.hid (And.intro k1 (And.intro k2 (And.intro k3 (And.intro k4 (And.intro k5 (And.intro k6 (And.intro k7 (And.intro k8 (And.intro k9 (And.intro k10 (And.intro k11 k12)))))))))))
    have HB := Lib.hid (And.intro hor (And.intro hoks.1 (And.intro hoks.2 (And.intro hWT hpt.le))))
    clear h4 hRC hpt hcC hBO hFA hFB hnt hnu hzt hzu hWT hD hor hoks k1 k2 k3 k4 k5 k6 k7 k8 k9 k10 k11 k12
    obtain ⟨-, x0, x1, x2, x3, x4, x5, x6, x7, y0, y1, y2, y3, y4, y5, y6, y7, v0, v1, v2, v3, v4, v5, v6, v7, k0, k1, k2, k3, k4, k5, k6, k7⟩ := H3.out _ K4.out
    go_wp2_with fail
    clear x0 x1 x2 x3 x4 x5 x6 x7 y0 y1 y2 y3 y4 y5 y6 y7 v0 v1 v2 v3 v4 v5 v6 v7 k0 k1 k2 k3 k4 k5 k6 k7
    go_cut [7] (fun v7 wx => ∃ m7, v7 = .pointer (some ⟨m7, 0, none⟩) ∧ Keep (fun _ => False) V0 wx ∧ At wx m7 24 (cells BO) ∧ V0.heap.size ≤ m7)
    case first =>
      have HQ0 := Lib.hid K4.out.drew
      refine wp_region_noPanic ?_
      refine wp_region_held_drew (S := (fun w' => Keep (fun _ => False) V0 w' ∧ w'.cell? ⟨w.heap.size, 0, none⟩ = some (.int .i64 t.kind) ∧ w'.cell? ⟨w.heap.size, 1, none⟩ = some (.int .u64 t.set.x0) ∧ w'.cell? ⟨w.heap.size, 2, none⟩ = some (.int .u64 t.set.x1) ∧ w'.cell? ⟨w.heap.size, 3, none⟩ = some (.int .u64 t.set.x2) ∧ w'.cell? ⟨w.heap.size, 4, none⟩ = some (.int .u64 t.set.x3) ∧ w'.cell? ⟨w.heap.size, 5, none⟩ = some (.int .i64 t.mn) ∧ w'.cell? ⟨w.heap.size, 6, none⟩ = some (.int .i64 t.mx) ∧ w'.cell? ⟨w.heap.size, 7, none⟩ = some (.slice a t.subs.length c) ∧ w'.cell? ⟨(w.heap.size + 1), 0, none⟩ = some (.int .i64 u.kind) ∧ w'.cell? ⟨(w.heap.size + 1), 1, none⟩ = some (.int .u64 u.set.x0) ∧ w'.cell? ⟨(w.heap.size + 1), 2, none⟩ = some (.int .u64 u.set.x1) ∧ w'.cell? ⟨(w.heap.size + 1), 3, none⟩ = some (.int .u64 u.set.x2) ∧ w'.cell? ⟨(w.heap.size + 1), 4, none⟩ = some (.int .u64 u.set.x3) ∧ w'.cell? ⟨(w.heap.size + 1), 5, none⟩ = some (.int .i64 u.mn) ∧ w'.cell? ⟨(w.heap.size + 1), 6, none⟩ = some (.int .i64 u.mx) ∧ w'.cell? ⟨(w.heap.size + 1), 7, none⟩ = some (.slice b u.subs.length d) ∧ w'.cell? ⟨p5, 0, none⟩ = some (.int .i64 4) ∧ w'.cell? ⟨p5, 1, none⟩ = some (.int .u64 0) ∧ w'.cell? ⟨p5, 2, none⟩ = some (.int .u64 0) ∧ w'.cell? ⟨p5, 3, none⟩ = some (.int .u64 0) ∧ w'.cell? ⟨p5, 4, none⟩ = some (.int .u64 0) ∧ w'.cell? ⟨p5, 5, none⟩ = some (.int .i64 0) ∧ w'.cell? ⟨p5, 6, none⟩ = some (.int .i64 0) ∧ w'.cell? ⟨p5, 7, none⟩ = some (.slice (some ⟨s1, 0, none⟩) 2 2) ∧ w'.cell? ⟨p6, 0, none⟩ = some (.int .i64 3) ∧ w'.cell? ⟨p6, 1, none⟩ = some (.int .u64 0) ∧ w'.cell? ⟨p6, 2, none⟩ = some (.int .u64 0) ∧ w'.cell? ⟨p6, 3, none⟩ = some (.int .u64 0) ∧ w'.cell? ⟨p6, 4, none⟩ = some (.int .u64 0) ∧ w'.cell? ⟨p6, 5, none⟩ = some (.int .i64 0) ∧ w'.cell? ⟨p6, 6, none⟩ = some (.int .i64 0) ∧ w'.cell? ⟨p6, 7, none⟩ = some (.slice (some ⟨s2, 0, none⟩) 2 2))) (by kernel_rfl) ?_ (fun hHeld => ?_)
      · exact H3.out _ K4.out.drew
      generalize w4.drew = X0 at *
      refine wpAnyH_take (i := 0) (oi := { dst := some 35, op := Go.Op.load 27 (Go.Operand.tmp 2), type := 27, pos := "law.go:80", after := #[], guard := none }) (v := ?_) rfl (by kernel_rfl) (by kernel_rfl) (by kernel_rfl) (fun _ _ _ h => h) (Or.inl ⟨by rfl, ?_⟩) (by assumption) ?_
      rotate_left 1
      · (intro w hSw; (try dsimp only at hSw); go_simp; first | done | with_reducible rfl)
      try simp only [Act.put, List.setIfInBounds_toArray, List.set_cons_zero, List.set_cons_succ]
      refine wpAnyH_take (i := 2) (oi := { dst := some 37, op := Go.Op.load 27 (Go.Operand.tmp 3), type := 27, pos := "law.go:80", after := #[], guard := none }) (v := ?_) rfl (by kernel_rfl) (by kernel_rfl) (by kernel_rfl) (fun _ _ _ h => h) (Or.inl ⟨by rfl, ?_⟩) (by assumption) ?_
      rotate_left 1
      · (intro w hSw; (try dsimp only at hSw); go_simp; first | done | with_reducible rfl)
      try simp only [Act.put, List.setIfInBounds_toArray, List.set_cons_zero, List.set_cons_succ]
      refine wpAnyH_ready (rs := [1, 5]) (by kernel_rfl) (by simp) ?_
      refine (AllReadyH.cons (o := { dst := some 36, op := Go.Op.call { callee := Go.Callee.value (Go.Operand.func 16), args := #[Go.Operand.tmp 35], argTypes := #[27] }, type := 24, pos := "law.go:80", after := #[{ on := 0, ground := Go.Ground.data }], guard := none }) rfl (fun K hK => ?_) (AllReadyH.cons (o := { dst := some 7, op := Go.Op.alloc 24, type := 0, pos := "law.go:80", after := #[], guard := none }) rfl (fun K hK => ?_) AllReadyH.nil))
      · go_simp
        go_at_call 16
        refine (HX.out.1 _ (And.left hHeld)).mono ?_
        rintro e X1 ⟨rfl, q⟩
        refine hK.out _ _ ?_ (fun hHeld' => ?_)
        · exact H3.out _ (Keep.trans (And.left hHeld) q)
        clear hK K hHeld
        have hHeld := hHeld'
        clear hHeld'
        have HQ1 := Lib.hid (HQ0.out.trans q)
        clear q
        try simp only [Act.put, List.setIfInBounds_toArray, List.set_cons_zero, List.set_cons_succ]
        refine wpAnyH_ready (rs := [3, 5]) (by kernel_rfl) (by simp) ?_
        refine (AllReadyH.cons (o := { dst := some 38, op := Go.Op.call { callee := Go.Callee.value (Go.Operand.func 16), args := #[Go.Operand.tmp 37], argTypes := #[27] }, type := 24, pos := "law.go:80", after := #[{ on := 2, ground := Go.Ground.data }, { on := 1, ground := Go.Ground.chain }], guard := none }) rfl (fun K hK => ?_) (AllReadyH.cons (o := { dst := some 7, op := Go.Op.alloc 24, type := 0, pos := "law.go:80", after := #[], guard := none }) rfl (fun K hK => ?_) AllReadyH.nil))
        · go_simp
          go_at_call 16
          refine (HX.out.2.1 _ (And.left hHeld)).mono ?_
          rintro e X2 ⟨rfl, q⟩
          refine hK.out _ _ ?_ (fun hHeld' => ?_)
          · exact H3.out _ (Keep.trans (And.left hHeld) q)
          clear hK K hHeld
          have hHeld := hHeld'
          clear hHeld'
          have HQ2 := Lib.hid (HQ1.out.trans q)
          clear q
          try simp only [Act.put, List.setIfInBounds_toArray, List.set_cons_zero, List.set_cons_succ]
          refine wpAnyH_ready (rs := [4, 5]) (by kernel_rfl) (by simp) ?_
          refine (AllReadyH.cons (o := { dst := some 39, op := Go.Op.call { callee := Go.Callee.value (Go.Operand.func 27), args := #[Go.Operand.tmp 36, Go.Operand.tmp 38], argTypes := #[24, 24] }, type := 24, pos := "law.go:80", after := #[{ on := 1, ground := Go.Ground.data }, { on := 3, ground := Go.Ground.data }, { on := 3, ground := Go.Ground.chain }], guard := none }) rfl (fun K hK => ?_) (AllReadyH.cons (o := { dst := some 7, op := Go.Op.alloc 24, type := 0, pos := "law.go:80", after := #[], guard := none }) rfl (fun K hK => ?_) AllReadyH.nil))
          · go_simp
            go_at_call 27
            refine (Bytes.or_any FA FB HB.out.2.1 HB.out.2.2.1 _).mono ?_
            rintro e X3 ⟨rfl, q⟩
            rw [HB.out.1]
            refine hK.out _ _ ?_ (fun hHeld' => ?_)
            · exact H3.out _ (Keep.trans (And.left hHeld) q)
            clear hK K hHeld
            have hHeld := hHeld'
            clear hHeld'
            have HQ3 := Lib.hid (HQ2.out.trans q)
            clear q
            try simp only [Act.put, List.setIfInBounds_toArray, List.set_cons_zero, List.set_cons_succ]
            refine wpAnyH_ready (rs := [5]) (by kernel_rfl) (by simp) ?_
            refine (AllReadyH.cons (o := { dst := some 7, op := Go.Op.alloc 24, type := 0, pos := "law.go:80", after := #[], guard := none }) rfl (fun K hK => ?_) AllReadyH.nil)
            go_simp
            refine hK.out _ _ ?_ (fun hHeld' => ?_)
            · exact H3.out _ (Keep.alloc (And.left hHeld) _)
            clear hK K hHeld
            have hHeld := hHeld'
            clear hHeld'
            have HA := Lib.hid (And.intro (At.new X3 Bytes.zeros 24) (show V0.heap.size ≤ X3.heap.size from HQ3.out.size))
            have HQ4 := Lib.hid (Keep.alloc HQ3.out (.cells Bytes.zeros 24))
            generalize World.alloc X3 _ = X4 at *
            generalize X3.heap.size = m7 at *
            try simp only [Act.put, List.setIfInBounds_toArray, List.set_cons_zero, List.set_cons_succ]
            refine wpAnyH_ready (rs := [6]) (by kernel_rfl) (by simp) ?_
            refine (AllReadyH.cons (o := { dst := none, op := Go.Op.store 24 (Go.Operand.tmp 7) (Go.Operand.tmp 39), type := 0, pos := "law.go:80", after := #[{ on := 5, ground := Go.Ground.data }, { on := 4, ground := Go.Ground.data }, { on := 4, ground := Go.Ground.chain }, { on := 0, ground := Go.Ground.phase }, { on := 1, ground := Go.Ground.phase }, { on := 2, ground := Go.Ground.phase }, { on := 3, ground := Go.Ground.phase }, { on := 4, ground := Go.Ground.phase }, { on := 5, ground := Go.Ground.phase }], guard := none }) rfl (fun K hK => ?_) AllReadyH.nil)
            obtain ⟨⟨z0, z1, z2, z3⟩, f0, f1, f2, f3⟩ := cells4 HA.out.1
            go_simp
            clear z0 z1 z2 z3 f0 f1 f2 f3
            have hk4 := keep4 HQ4.out (b := m7) (fun h => absurd h (by have := HA.out.2; omega)) (.int .u64 BO.x0) (.int .u64 BO.x1) (.int .u64 BO.x2) (.int .u64 BO.x3)
            have hA4 := set4 HA.out.1 (.int .u64 BO.x0) (.int .u64 BO.x1) (.int .u64 BO.x2) (.int .u64 BO.x3)
            refine hK.out _ _ ?_ (fun hHeld' => ?_)
            · exact H3.out _ hk4
            clear hK K hHeld
            have hHeld := hHeld'
            clear hHeld'
            have HA' := Lib.hid (And.intro hA4 HA.out.2)
            clear HA
            have HA := HA'
            clear HA' hA4 hk4
            generalize World.setCell _ _ _ = X5 at *
            try simp only [Act.put, List.setIfInBounds_toArray, List.set_cons_zero, List.set_cons_succ]
            refine wpAnyH_done (by kernel_rfl) ?_ _
            refine NoPanic.normal ?_
            have HPR := Lib.hid (And.intro hHeld.1 HA.out)
            clear hHeld HA
            go_wp2_with fail
            go_meet
            case rel => exact ⟨m7, rfl, HPR.out.1, HPR.out.2.1, HPR.out.2.2⟩
          · go_simp
            refine hK.out _ _ ?_ (fun hHeld' => ?_)
            · exact H3.out _ (Keep.alloc (And.left hHeld) _)
            clear hK K hHeld
            have hHeld := hHeld'
            clear hHeld'
            have HA := Lib.hid (And.intro (At.new X2 Bytes.zeros 24) (show V0.heap.size ≤ X2.heap.size from HQ2.out.size))
            have HQ3 := Lib.hid (Keep.alloc HQ2.out (.cells Bytes.zeros 24))
            generalize World.alloc X2 _ = X3 at *
            generalize X2.heap.size = m7 at *
            try simp only [Act.put, List.setIfInBounds_toArray, List.set_cons_zero, List.set_cons_succ]
            refine wpAnyH_ready (rs := [4]) (by kernel_rfl) (by simp) ?_
            refine (AllReadyH.cons (o := { dst := some 39, op := Go.Op.call { callee := Go.Callee.value (Go.Operand.func 27), args := #[Go.Operand.tmp 36, Go.Operand.tmp 38], argTypes := #[24, 24] }, type := 24, pos := "law.go:80", after := #[{ on := 1, ground := Go.Ground.data }, { on := 3, ground := Go.Ground.data }, { on := 3, ground := Go.Ground.chain }], guard := none }) rfl (fun K hK => ?_) AllReadyH.nil)
            go_simp
            go_at_call 27
            refine (Bytes.or_any FA FB HB.out.2.1 HB.out.2.2.1 _).mono ?_
            rintro e X4 ⟨rfl, q⟩
            rw [HB.out.1]
            refine hK.out _ _ ?_ (fun hHeld' => ?_)
            · exact H3.out _ (Keep.trans (And.left hHeld) q)
            clear hK K hHeld
            have hHeld := hHeld'
            clear hHeld'
            have HA' := Lib.hid (And.intro (HA.out.1.keep q (fun h => h)) HA.out.2)
            clear HA
            have HA := HA'
            clear HA'
            have HQ4 := Lib.hid (HQ3.out.trans q)
            clear q
            try simp only [Act.put, List.setIfInBounds_toArray, List.set_cons_zero, List.set_cons_succ]
            refine wpAnyH_ready (rs := [6]) (by kernel_rfl) (by simp) ?_
            refine (AllReadyH.cons (o := { dst := none, op := Go.Op.store 24 (Go.Operand.tmp 7) (Go.Operand.tmp 39), type := 0, pos := "law.go:80", after := #[{ on := 5, ground := Go.Ground.data }, { on := 4, ground := Go.Ground.data }, { on := 4, ground := Go.Ground.chain }, { on := 0, ground := Go.Ground.phase }, { on := 1, ground := Go.Ground.phase }, { on := 2, ground := Go.Ground.phase }, { on := 3, ground := Go.Ground.phase }, { on := 4, ground := Go.Ground.phase }, { on := 5, ground := Go.Ground.phase }], guard := none }) rfl (fun K hK => ?_) AllReadyH.nil)
            obtain ⟨⟨z0, z1, z2, z3⟩, f0, f1, f2, f3⟩ := cells4 HA.out.1
            go_simp
            clear z0 z1 z2 z3 f0 f1 f2 f3
            have hk4 := keep4 HQ4.out (b := m7) (fun h => absurd h (by have := HA.out.2; omega)) (.int .u64 BO.x0) (.int .u64 BO.x1) (.int .u64 BO.x2) (.int .u64 BO.x3)
            have hA4 := set4 HA.out.1 (.int .u64 BO.x0) (.int .u64 BO.x1) (.int .u64 BO.x2) (.int .u64 BO.x3)
            refine hK.out _ _ ?_ (fun hHeld' => ?_)
            · exact H3.out _ hk4
            clear hK K hHeld
            have hHeld := hHeld'
            clear hHeld'
            have HA' := Lib.hid (And.intro hA4 HA.out.2)
            clear HA
            have HA := HA'
            clear HA' hA4 hk4
            generalize World.setCell _ _ _ = X5 at *
            try simp only [Act.put, List.setIfInBounds_toArray, List.set_cons_zero, List.set_cons_succ]
            refine wpAnyH_done (by kernel_rfl) ?_ _
            refine NoPanic.normal ?_
            have HPR := Lib.hid (And.intro hHeld.1 HA.out)
            clear hHeld HA
            go_wp2_with fail
            go_meet
            case rel => exact ⟨m7, rfl, HPR.out.1, HPR.out.2.1, HPR.out.2.2⟩
        · go_simp
          refine hK.out _ _ ?_ (fun hHeld' => ?_)
          · exact H3.out _ (Keep.alloc (And.left hHeld) _)
          clear hK K hHeld
          have hHeld := hHeld'
          clear hHeld'
          have HA := Lib.hid (And.intro (At.new X1 Bytes.zeros 24) (show V0.heap.size ≤ X1.heap.size from HQ1.out.size))
          have HQ2 := Lib.hid (Keep.alloc HQ1.out (.cells Bytes.zeros 24))
          generalize World.alloc X1 _ = X2 at *
          generalize X1.heap.size = m7 at *
          try simp only [Act.put, List.setIfInBounds_toArray, List.set_cons_zero, List.set_cons_succ]
          refine wpAnyH_ready (rs := [3]) (by kernel_rfl) (by simp) ?_
          refine (AllReadyH.cons (o := { dst := some 38, op := Go.Op.call { callee := Go.Callee.value (Go.Operand.func 16), args := #[Go.Operand.tmp 37], argTypes := #[27] }, type := 24, pos := "law.go:80", after := #[{ on := 2, ground := Go.Ground.data }, { on := 1, ground := Go.Ground.chain }], guard := none }) rfl (fun K hK => ?_) AllReadyH.nil)
          go_simp
          go_at_call 16
          refine (HX.out.2.1 _ (And.left hHeld)).mono ?_
          rintro e X3 ⟨rfl, q⟩
          refine hK.out _ _ ?_ (fun hHeld' => ?_)
          · exact H3.out _ (Keep.trans (And.left hHeld) q)
          clear hK K hHeld
          have hHeld := hHeld'
          clear hHeld'
          have HA' := Lib.hid (And.intro (HA.out.1.keep q (fun h => h)) HA.out.2)
          clear HA
          have HA := HA'
          clear HA'
          have HQ3 := Lib.hid (HQ2.out.trans q)
          clear q
          try simp only [Act.put, List.setIfInBounds_toArray, List.set_cons_zero, List.set_cons_succ]
          refine wpAnyH_ready (rs := [4]) (by kernel_rfl) (by simp) ?_
          refine (AllReadyH.cons (o := { dst := some 39, op := Go.Op.call { callee := Go.Callee.value (Go.Operand.func 27), args := #[Go.Operand.tmp 36, Go.Operand.tmp 38], argTypes := #[24, 24] }, type := 24, pos := "law.go:80", after := #[{ on := 1, ground := Go.Ground.data }, { on := 3, ground := Go.Ground.data }, { on := 3, ground := Go.Ground.chain }], guard := none }) rfl (fun K hK => ?_) AllReadyH.nil)
          go_simp
          go_at_call 27
          refine (Bytes.or_any FA FB HB.out.2.1 HB.out.2.2.1 _).mono ?_
          rintro e X4 ⟨rfl, q⟩
          rw [HB.out.1]
          refine hK.out _ _ ?_ (fun hHeld' => ?_)
          · exact H3.out _ (Keep.trans (And.left hHeld) q)
          clear hK K hHeld
          have hHeld := hHeld'
          clear hHeld'
          have HA' := Lib.hid (And.intro (HA.out.1.keep q (fun h => h)) HA.out.2)
          clear HA
          have HA := HA'
          clear HA'
          have HQ4 := Lib.hid (HQ3.out.trans q)
          clear q
          try simp only [Act.put, List.setIfInBounds_toArray, List.set_cons_zero, List.set_cons_succ]
          refine wpAnyH_ready (rs := [6]) (by kernel_rfl) (by simp) ?_
          refine (AllReadyH.cons (o := { dst := none, op := Go.Op.store 24 (Go.Operand.tmp 7) (Go.Operand.tmp 39), type := 0, pos := "law.go:80", after := #[{ on := 5, ground := Go.Ground.data }, { on := 4, ground := Go.Ground.data }, { on := 4, ground := Go.Ground.chain }, { on := 0, ground := Go.Ground.phase }, { on := 1, ground := Go.Ground.phase }, { on := 2, ground := Go.Ground.phase }, { on := 3, ground := Go.Ground.phase }, { on := 4, ground := Go.Ground.phase }, { on := 5, ground := Go.Ground.phase }], guard := none }) rfl (fun K hK => ?_) AllReadyH.nil)
          obtain ⟨⟨z0, z1, z2, z3⟩, f0, f1, f2, f3⟩ := cells4 HA.out.1
          go_simp
          clear z0 z1 z2 z3 f0 f1 f2 f3
          have hk4 := keep4 HQ4.out (b := m7) (fun h => absurd h (by have := HA.out.2; omega)) (.int .u64 BO.x0) (.int .u64 BO.x1) (.int .u64 BO.x2) (.int .u64 BO.x3)
          have hA4 := set4 HA.out.1 (.int .u64 BO.x0) (.int .u64 BO.x1) (.int .u64 BO.x2) (.int .u64 BO.x3)
          refine hK.out _ _ ?_ (fun hHeld' => ?_)
          · exact H3.out _ hk4
          clear hK K hHeld
          have hHeld := hHeld'
          clear hHeld'
          have HA' := Lib.hid (And.intro hA4 HA.out.2)
          clear HA
          have HA := HA'
          clear HA' hA4 hk4
          generalize World.setCell _ _ _ = X5 at *
          try simp only [Act.put, List.setIfInBounds_toArray, List.set_cons_zero, List.set_cons_succ]
          refine wpAnyH_done (by kernel_rfl) ?_ _
          refine NoPanic.normal ?_
          have HPR := Lib.hid (And.intro hHeld.1 HA.out)
          clear hHeld HA
          go_wp2_with fail
          go_meet
          case rel => exact ⟨m7, rfl, HPR.out.1, HPR.out.2.1, HPR.out.2.2⟩
      · go_simp
        refine hK.out _ _ ?_ (fun hHeld' => ?_)
        · exact H3.out _ (Keep.alloc (And.left hHeld) _)
        clear hK K hHeld
        have hHeld := hHeld'
        clear hHeld'
        have HA := Lib.hid (And.intro (At.new X0 Bytes.zeros 24) (show V0.heap.size ≤ X0.heap.size from HQ0.out.size))
        have HQ1 := Lib.hid (Keep.alloc HQ0.out (.cells Bytes.zeros 24))
        generalize World.alloc X0 _ = X1 at *
        generalize X0.heap.size = m7 at *
        try simp only [Act.put, List.setIfInBounds_toArray, List.set_cons_zero, List.set_cons_succ]
        refine wpAnyH_ready (rs := [1]) (by kernel_rfl) (by simp) ?_
        refine (AllReadyH.cons (o := { dst := some 36, op := Go.Op.call { callee := Go.Callee.value (Go.Operand.func 16), args := #[Go.Operand.tmp 35], argTypes := #[27] }, type := 24, pos := "law.go:80", after := #[{ on := 0, ground := Go.Ground.data }], guard := none }) rfl (fun K hK => ?_) AllReadyH.nil)
        go_simp
        go_at_call 16
        refine (HX.out.1 _ (And.left hHeld)).mono ?_
        rintro e X2 ⟨rfl, q⟩
        refine hK.out _ _ ?_ (fun hHeld' => ?_)
        · exact H3.out _ (Keep.trans (And.left hHeld) q)
        clear hK K hHeld
        have hHeld := hHeld'
        clear hHeld'
        have HA' := Lib.hid (And.intro (HA.out.1.keep q (fun h => h)) HA.out.2)
        clear HA
        have HA := HA'
        clear HA'
        have HQ2 := Lib.hid (HQ1.out.trans q)
        clear q
        try simp only [Act.put, List.setIfInBounds_toArray, List.set_cons_zero, List.set_cons_succ]
        refine wpAnyH_ready (rs := [3]) (by kernel_rfl) (by simp) ?_
        refine (AllReadyH.cons (o := { dst := some 38, op := Go.Op.call { callee := Go.Callee.value (Go.Operand.func 16), args := #[Go.Operand.tmp 37], argTypes := #[27] }, type := 24, pos := "law.go:80", after := #[{ on := 2, ground := Go.Ground.data }, { on := 1, ground := Go.Ground.chain }], guard := none }) rfl (fun K hK => ?_) AllReadyH.nil)
        go_simp
        go_at_call 16
        refine (HX.out.2.1 _ (And.left hHeld)).mono ?_
        rintro e X3 ⟨rfl, q⟩
        refine hK.out _ _ ?_ (fun hHeld' => ?_)
        · exact H3.out _ (Keep.trans (And.left hHeld) q)
        clear hK K hHeld
        have hHeld := hHeld'
        clear hHeld'
        have HA' := Lib.hid (And.intro (HA.out.1.keep q (fun h => h)) HA.out.2)
        clear HA
        have HA := HA'
        clear HA'
        have HQ3 := Lib.hid (HQ2.out.trans q)
        clear q
        try simp only [Act.put, List.setIfInBounds_toArray, List.set_cons_zero, List.set_cons_succ]
        refine wpAnyH_ready (rs := [4]) (by kernel_rfl) (by simp) ?_
        refine (AllReadyH.cons (o := { dst := some 39, op := Go.Op.call { callee := Go.Callee.value (Go.Operand.func 27), args := #[Go.Operand.tmp 36, Go.Operand.tmp 38], argTypes := #[24, 24] }, type := 24, pos := "law.go:80", after := #[{ on := 1, ground := Go.Ground.data }, { on := 3, ground := Go.Ground.data }, { on := 3, ground := Go.Ground.chain }], guard := none }) rfl (fun K hK => ?_) AllReadyH.nil)
        go_simp
        go_at_call 27
        refine (Bytes.or_any FA FB HB.out.2.1 HB.out.2.2.1 _).mono ?_
        rintro e X4 ⟨rfl, q⟩
        rw [HB.out.1]
        refine hK.out _ _ ?_ (fun hHeld' => ?_)
        · exact H3.out _ (Keep.trans (And.left hHeld) q)
        clear hK K hHeld
        have hHeld := hHeld'
        clear hHeld'
        have HA' := Lib.hid (And.intro (HA.out.1.keep q (fun h => h)) HA.out.2)
        clear HA
        have HA := HA'
        clear HA'
        have HQ4 := Lib.hid (HQ3.out.trans q)
        clear q
        try simp only [Act.put, List.setIfInBounds_toArray, List.set_cons_zero, List.set_cons_succ]
        refine wpAnyH_ready (rs := [6]) (by kernel_rfl) (by simp) ?_
        refine (AllReadyH.cons (o := { dst := none, op := Go.Op.store 24 (Go.Operand.tmp 7) (Go.Operand.tmp 39), type := 0, pos := "law.go:80", after := #[{ on := 5, ground := Go.Ground.data }, { on := 4, ground := Go.Ground.data }, { on := 4, ground := Go.Ground.chain }, { on := 0, ground := Go.Ground.phase }, { on := 1, ground := Go.Ground.phase }, { on := 2, ground := Go.Ground.phase }, { on := 3, ground := Go.Ground.phase }, { on := 4, ground := Go.Ground.phase }, { on := 5, ground := Go.Ground.phase }], guard := none }) rfl (fun K hK => ?_) AllReadyH.nil)
        obtain ⟨⟨z0, z1, z2, z3⟩, f0, f1, f2, f3⟩ := cells4 HA.out.1
        go_simp
        clear z0 z1 z2 z3 f0 f1 f2 f3
        have hk4 := keep4 HQ4.out (b := m7) (fun h => absurd h (by have := HA.out.2; omega)) (.int .u64 BO.x0) (.int .u64 BO.x1) (.int .u64 BO.x2) (.int .u64 BO.x3)
        have hA4 := set4 HA.out.1 (.int .u64 BO.x0) (.int .u64 BO.x1) (.int .u64 BO.x2) (.int .u64 BO.x3)
        refine hK.out _ _ ?_ (fun hHeld' => ?_)
        · exact H3.out _ hk4
        clear hK K hHeld
        have hHeld := hHeld'
        clear hHeld'
        have HA' := Lib.hid (And.intro hA4 HA.out.2)
        clear HA
        have HA := HA'
        clear HA' hA4 hk4
        generalize World.setCell _ _ _ = X5 at *
        try simp only [Act.put, List.setIfInBounds_toArray, List.set_cons_zero, List.set_cons_succ]
        refine wpAnyH_done (by kernel_rfl) ?_ _
        refine NoPanic.normal ?_
        have HPR := Lib.hid (And.intro hHeld.1 HA.out)
        clear hHeld HA
        go_wp2_with fail
        go_meet
        case rel => exact ⟨m7, rfl, HPR.out.1, HPR.out.2.1, HPR.out.2.2⟩
    case rest =>
    obtain ⟨m7, rfl, hk7, ha7, hm7⟩ := hcut
    generalize wc = V7 at *
    have I7 := Lib.hid (And.intro hk7 (And.intro ha7 hm7))
    clear hk7 ha7 hm7
    obtain ⟨-, x0, x1, x2, x3, x4, x5, x6, x7, y0, y1, y2, y3, y4, y5, y6, y7, v0, v1, v2, v3, v4, v5, v6, v7, k0, k1, k2, k3, k4, k5, k6, k7⟩ := H3.out _ I7.out.1
    go_wp2_with fail
    refine (HX.out.1 V7 I7.out.1).mono ?_
    rintro e w5 ⟨rfl, q5⟩
    have I8 := Lib.hid (show Keep (fun _ => False) V0 (w5.alloc (.cells (cells FA) 24)) ∧ At (w5.alloc (.cells (cells FA) 24)) m7 24 (cells BO) ∧ At (w5.alloc (.cells (cells FA) 24)) w5.heap.size 24 (cells FA) ∧ m7 ≠ w5.heap.size ∧ V0.heap.size ≤ w5.heap.size from
      ⟨(I7.out.1.trans q5).alloc _, (I7.out.2.1.keep q5 (fun h => h)).alloc _, At.new w5 _ _, by have := (I7.out.2.1.keep q5 (fun h => h)).lt; omega, (I7.out.1.trans q5).size⟩)
    clear q5 x0 x1 x2 x3 x4 x5 x6 x7 y0 y1 y2 y3 y4 y5 y6 y7 v0 v1 v2 v3 v4 v5 v6 v7 k0 k1 k2 k3 k4 k5 k6 k7
    go_upto_region 6 with fail
    generalize World.alloc w5 _ = V8 at *
    generalize w5.heap.size = m8 at *
    have hT : (zt = true ∧ WT = (if nt = true ∨ nu = true then ST.none else BO)) ∨ (zt = false ∧ WT = (if nt = true ∨ nu = true then ST.none else FA)) := by
      have h := HB.out.2.2.2.1
      cases zt with
      | true => exact .inl ⟨rfl, by rw [← h]; rfl⟩
      | false => exact .inr ⟨rfl, by rw [← h]; rfl⟩
    have HT := Lib.hid hT
    clear hT
    obtain ⟨W1, hW1⟩ : ∃ s, (if zt = true then BO else FA) = s := ⟨_, rfl⟩
    have HW1 := Lib.hid hW1
    clear hW1
    obtain ⟨-, x0, x1, x2, x3, x4, x5, x6, x7, y0, y1, y2, y3, y4, y5, y6, y7, v0, v1, v2, v3, v4, v5, v6, v7, k0, k1, k2, k3, k4, k5, k6, k7⟩ := H3.out _ I8.out.1
    go_wp2_with fail
    refine (HX.out.2.2.2.2.1 V8 I8.out.1).mono ?_
    rintro e w6 ⟨rfl, q6⟩
    have I9 := Lib.hid (show Keep (fun _ => False) V0 w6 ∧ At w6 m7 24 (cells BO) ∧ At w6 m8 24 (cells FA) from ⟨I8.out.1.trans q6, I8.out.2.1.keep q6 (fun h => h), I8.out.2.2.1.keep q6 (fun h => h)⟩)
    clear q6 x0 x1 x2 x3 x4 x5 x6 x7 y0 y1 y2 y3 y4 y5 y6 y7 v0 v1 v2 v3 v4 v5 v6 v7 k0 k1 k2 k3 k4 k5 k6 k7
    go_upto_if 43 with fail
    go_cut [] from 43 to 45 (fun wx => Keep (fun _ => False) V0 wx ∧ At wx m7 24 (cells BO) ∧ At wx m8 24 (cells W1))
    case first =>
      have h1 := HW1.out
      obtain ⟨⟨z0, z1, z2, z3⟩, f0, f1, f2, f3⟩ := cells4 I9.out.2.1
      obtain ⟨⟨j0, j1, j2, j3⟩, i0, i1, i2, i3⟩ := cells4 I9.out.2.2
      rcases HT.out with ⟨rfl, -⟩ | ⟨rfl, -⟩
      · have hp : Keep (fun _ => False) V0 ((((w6.setCell ⟨m8, 0, none⟩ (.int .u64 BO.x0)).setCell ⟨m8, 1, none⟩ (.int .u64 BO.x1)).setCell ⟨m8, 2, none⟩ (.int .u64 BO.x2)).setCell ⟨m8, 3, none⟩ (.int .u64 BO.x3)) ∧ At ((((w6.setCell ⟨m8, 0, none⟩ (.int .u64 BO.x0)).setCell ⟨m8, 1, none⟩ (.int .u64 BO.x1)).setCell ⟨m8, 2, none⟩ (.int .u64 BO.x2)).setCell ⟨m8, 3, none⟩ (.int .u64 BO.x3)) m7 24 (cells BO) ∧ At ((((w6.setCell ⟨m8, 0, none⟩ (.int .u64 BO.x0)).setCell ⟨m8, 1, none⟩ (.int .u64 BO.x1)).setCell ⟨m8, 2, none⟩ (.int .u64 BO.x2)).setCell ⟨m8, 3, none⟩ (.int .u64 BO.x3)) m8 24 (cells BO) :=
          ⟨keep4 I9.out.1 (fun h => absurd h (by have := I8.out.2.2.2.2; omega)) _ _ _ _, (((I9.out.2.1.setOther (p := ⟨m8, 0, none⟩) I8.out.2.2.2.1 _).setOther (p := ⟨m8, 1, none⟩) I8.out.2.2.2.1 _).setOther (p := ⟨m8, 2, none⟩) I8.out.2.2.2.1 _).setOther (p := ⟨m8, 3, none⟩) I8.out.2.2.2.1 _, set4 I9.out.2.2 _ _ _ _⟩
        have HPP := Lib.hid hp
        clear hp
        clear h1
        go_wp2_with fail
        go_meet
        case rel => exact ⟨HPP.out.1, HPP.out.2.1, by rw [← HW1.out]; simpa using HPP.out.2.2⟩
      · go_wp2_with fail
        go_meet
        case rel => exact ⟨I9.out.1, I9.out.2.1, by rw [← HW1.out, if_neg (by decide)]; exact I9.out.2.2⟩
    case rest =>
    obtain ⟨hk9, ha9, hb9⟩ := hcut
    generalize wc = V9 at *
    have I10 := Lib.hid (And.intro hk9 (And.intro ha9 hb9))
    clear hk9 ha9 hb9
    have hWT : ∀ (bb : Bool), bb = (nt || nu) → (if bb = true then ST.none else W1) = WT := fun bb hbb => by
      have h1 := HB.out.2.2.2.1
      have h2 := HW1.out
      rw [hbb]
      cases nt <;> cases nu <;> simp_all
    have HWT := Lib.hid hWT
    clear hWT
    obtain ⟨bb, hbb⟩ : ∃ bb : Bool, (nt || nu) = bb := ⟨_, rfl⟩
    have HBB := Lib.hid hbb
    clear hbb
    go_upto_region 8 with fail
    go_cut [50] (fun v50 wx => v50 = .bool bb ∧ Keep (fun _ => False) V0 wx ∧ At wx m7 24 (cells BO) ∧ At wx m8 24 (cells W1))
    case first =>
      obtain ⟨-, x0, x1, x2, x3, x4, x5, x6, x7, y0, y1, y2, y3, y4, y5, y6, y7, v0, v1, v2, v3, v4, v5, v6, v7, k0, k1, k2, k3, k4, k5, k6, k7⟩ := H3.out _ I10.out.1
      go_wp2_with fail
      refine (HX.out.2.2.2.2.2.2.2.2.1 V9 I10.out.1).mono ?_
      rintro e w10 ⟨rfl, q10⟩
      have I11 := Lib.hid (show Keep (fun _ => False) V0 w10 ∧ At w10 m7 24 (cells BO) ∧ At w10 m8 24 (cells W1) from ⟨I10.out.1.trans q10, I10.out.2.1.keep q10 (fun h => h), I10.out.2.2.keep q10 (fun h => h)⟩)
      clear q10 x0 x1 x2 x3 x4 x5 x6 x7 y0 y1 y2 y3 y4 y5 y6 y7 v0 v1 v2 v3 v4 v5 v6 v7 k0 k1 k2 k3 k4 k5 k6 k7
      cases nt with
      | true =>
        have hb1 := HBB.out
        rw [Bool.true_or] at hb1
        have HB1 := Lib.hid hb1
        clear hb1
        go_wp2_with fail
        go_meet
        case rel => exact ⟨by rw [← HB1.out], I11.out⟩
      | false =>
        have hb1 := HBB.out
        rw [Bool.false_or] at hb1
        have HB1 := Lib.hid hb1
        clear hb1
        obtain ⟨-, x0, x1, x2, x3, x4, x5, x6, x7, y0, y1, y2, y3, y4, y5, y6, y7, v0, v1, v2, v3, v4, v5, v6, v7, k0, k1, k2, k3, k4, k5, k6, k7⟩ := H3.out _ I11.out.1
        go_wp2_with fail
        refine (HX.out.2.2.2.2.2.2.2.2.2.1 w10 I11.out.1).mono ?_
        rintro e w11 ⟨rfl, q11⟩
        rw [HB1.out]
        have I12 := Lib.hid (show Keep (fun _ => False) V0 w11 ∧ At w11 m7 24 (cells BO) ∧ At w11 m8 24 (cells W1) from ⟨I11.out.1.trans q11, I11.out.2.1.keep q11 (fun h => h), I11.out.2.2.keep q11 (fun h => h)⟩)
        clear q11 x0 x1 x2 x3 x4 x5 x6 x7 y0 y1 y2 y3 y4 y5 y6 y7 v0 v1 v2 v3 v4 v5 v6 v7 k0 k1 k2 k3 k4 k5 k6 k7
        go_wp2_with fail
        go_meet
        case rel => exact ⟨rfl, I12.out⟩
    case rest =>
    obtain ⟨rfl, hk12, ha12, hb12⟩ := hcut
    generalize wc = V12 at *
    have I12 := Lib.hid (And.intro hk12 (And.intro ha12 hb12))
    clear hk12 ha12 hb12
    have HWB := Lib.hid (HWT.out bb HBB.out.symm)
    go_upto_if 50 with fail
    go_cut [] from 51 to 52 (fun wx => Keep (fun _ => False) V0 wx ∧ At wx m7 24 (cells BO) ∧ At wx m8 24 (cells WT))
    case first =>
      obtain ⟨⟨j0, j1, j2, j3⟩, i0, i1, i2, i3⟩ := cells4 I12.out.2.2
      cases bb with
      | true =>
        have hp : Keep (fun _ => False) V0 ((((V12.setCell ⟨m8, 0, none⟩ (.int .u64 ST.none.x0)).setCell ⟨m8, 1, none⟩ (.int .u64 ST.none.x1)).setCell ⟨m8, 2, none⟩ (.int .u64 ST.none.x2)).setCell ⟨m8, 3, none⟩ (.int .u64 ST.none.x3)) ∧ At ((((V12.setCell ⟨m8, 0, none⟩ (.int .u64 ST.none.x0)).setCell ⟨m8, 1, none⟩ (.int .u64 ST.none.x1)).setCell ⟨m8, 2, none⟩ (.int .u64 ST.none.x2)).setCell ⟨m8, 3, none⟩ (.int .u64 ST.none.x3)) m7 24 (cells BO) ∧ At ((((V12.setCell ⟨m8, 0, none⟩ (.int .u64 ST.none.x0)).setCell ⟨m8, 1, none⟩ (.int .u64 ST.none.x1)).setCell ⟨m8, 2, none⟩ (.int .u64 ST.none.x2)).setCell ⟨m8, 3, none⟩ (.int .u64 ST.none.x3)) m8 24 (cells ST.none) :=
          ⟨keep4 I12.out.1 (fun h => absurd h (by have := I8.out.2.2.2.2; omega)) _ _ _ _, (((I12.out.2.1.setOther (p := ⟨m8, 0, none⟩) I8.out.2.2.2.1 _).setOther (p := ⟨m8, 1, none⟩) I8.out.2.2.2.1 _).setOther (p := ⟨m8, 2, none⟩) I8.out.2.2.2.1 _).setOther (p := ⟨m8, 3, none⟩) I8.out.2.2.2.1 _, set4 I12.out.2.2 _ _ _ _⟩
        have HPP := Lib.hid hp
        clear hp
        have hw : ST.none = WT := by simpa using HWB.out
        have HW := Lib.hid hw
        clear hw
        go_wp2_with fail
        go_meet
        case rel => exact ⟨HPP.out.1, HPP.out.2.1, by rw [← HW.out]; exact HPP.out.2.2⟩
      | false =>
        have hw : W1 = WT := by simpa using HWB.out
        have HW := Lib.hid hw
        clear hw
        go_wp2_with fail
        go_meet
        case rel => exact ⟨I12.out.1, I12.out.2.1, by rw [← HW.out]; exact I12.out.2.2⟩
    case rest =>
    obtain ⟨hk13, ha13, hb13⟩ := hcut
    generalize wc = V13 at *
    have I13 := Lib.hid (And.intro hk13 (And.intro ha13 hb13))
    clear hk13 ha13 hb13
    obtain ⟨l1, hl1⟩ : ∃ n, (Bytes.lst BO.has 256).length = n := ⟨_, rfl⟩
    obtain ⟨l2, hl2⟩ : ∃ n, (Bytes.lst WT.has 256).length = n := ⟨_, rfl⟩
    have hle : l2 ≤ l1 := by have h := HB.out.2.2.2.2; rw [hl1, hl2] at h; exact h
    have hk1 : ∀ W', Calls Try.prog 28 #[val BO] W' fun e w' => ∃ aL cL, e = .returned (.slice aL l1 cL) ∧ Keep (fun _ => False) W' w' := fun W' => (list_any BO W').mono fun e w' h => by
      obtain ⟨v, rfl, hil, -, q⟩ := h
      obtain ⟨aL, cL, rfl, -⟩ := hil.form
      exact ⟨aL, cL, by rw [hl1], q⟩
    have hk2 : ∀ W', Calls Try.prog 28 #[val WT] W' fun e w' => ∃ aL cL, e = .returned (.slice aL l2 cL) ∧ Keep (fun _ => False) W' w' := fun W' => (list_any WT W').mono fun e w' h => by
      obtain ⟨v, rfl, hil, -, q⟩ := h
      obtain ⟨aL, cL, rfl, -⟩ := hil.form
      exact ⟨aL, cL, by rw [hl2], q⟩
    have HLS := Lib.hid (And.intro hk1 hk2)
    have hes1 : ∀ W, (Op.equalIn 10000 24 (val BO) (val BO)).run Try.prog W = .ok true W := fun W => by rw [eq_set, eqB_refl]
    have hes2 : ∀ W, (Op.equalIn 10000 24 (val WT) (val WT)).run Try.prog W = .ok true W := fun W => by rw [eq_set, eqB_refl]
    have hleI : (l2 : Int) ≤ l1 := by omega
    clear hk1 hk2 hl1 hl2 hle
    have hS5 : ∀ w', Keep (fun _ => False) V13 w' → Keep (fun _ => False) V13 w' ∧ w'.cell? ⟨w.heap.size, 0, none⟩ = some (.int .i64 t.kind) ∧ w'.cell? ⟨w.heap.size, 1, none⟩ = some (.int .u64 t.set.x0) ∧ w'.cell? ⟨w.heap.size, 2, none⟩ = some (.int .u64 t.set.x1) ∧ w'.cell? ⟨w.heap.size, 3, none⟩ = some (.int .u64 t.set.x2) ∧ w'.cell? ⟨w.heap.size, 4, none⟩ = some (.int .u64 t.set.x3) ∧ w'.cell? ⟨w.heap.size, 5, none⟩ = some (.int .i64 t.mn) ∧ w'.cell? ⟨w.heap.size, 6, none⟩ = some (.int .i64 t.mx) ∧ w'.cell? ⟨w.heap.size, 7, none⟩ = some (.slice a t.subs.length c) ∧ w'.cell? ⟨(w.heap.size + 1), 0, none⟩ = some (.int .i64 u.kind) ∧ w'.cell? ⟨(w.heap.size + 1), 1, none⟩ = some (.int .u64 u.set.x0) ∧ w'.cell? ⟨(w.heap.size + 1), 2, none⟩ = some (.int .u64 u.set.x1) ∧ w'.cell? ⟨(w.heap.size + 1), 3, none⟩ = some (.int .u64 u.set.x2) ∧ w'.cell? ⟨(w.heap.size + 1), 4, none⟩ = some (.int .u64 u.set.x3) ∧ w'.cell? ⟨(w.heap.size + 1), 5, none⟩ = some (.int .i64 u.mn) ∧ w'.cell? ⟨(w.heap.size + 1), 6, none⟩ = some (.int .i64 u.mx) ∧ w'.cell? ⟨(w.heap.size + 1), 7, none⟩ = some (.slice b u.subs.length d) ∧ w'.cell? ⟨p5, 0, none⟩ = some (.int .i64 4) ∧ w'.cell? ⟨p5, 1, none⟩ = some (.int .u64 0) ∧ w'.cell? ⟨p5, 2, none⟩ = some (.int .u64 0) ∧ w'.cell? ⟨p5, 3, none⟩ = some (.int .u64 0) ∧ w'.cell? ⟨p5, 4, none⟩ = some (.int .u64 0) ∧ w'.cell? ⟨p5, 5, none⟩ = some (.int .i64 0) ∧ w'.cell? ⟨p5, 6, none⟩ = some (.int .i64 0) ∧ w'.cell? ⟨p5, 7, none⟩ = some (.slice (some ⟨s1, 0, none⟩) 2 2) ∧ w'.cell? ⟨p6, 0, none⟩ = some (.int .i64 3) ∧ w'.cell? ⟨p6, 1, none⟩ = some (.int .u64 0) ∧ w'.cell? ⟨p6, 2, none⟩ = some (.int .u64 0) ∧ w'.cell? ⟨p6, 3, none⟩ = some (.int .u64 0) ∧ w'.cell? ⟨p6, 4, none⟩ = some (.int .u64 0) ∧ w'.cell? ⟨p6, 5, none⟩ = some (.int .i64 0) ∧ w'.cell? ⟨p6, 6, none⟩ = some (.int .i64 0) ∧ w'.cell? ⟨p6, 7, none⟩ = some (.slice (some ⟨s2, 0, none⟩) 2 2) ∧ w'.cell? ⟨m7, 0, none⟩ = some (.int .u64 BO.x0) ∧ w'.cell? ⟨m7, 1, none⟩ = some (.int .u64 BO.x1) ∧ w'.cell? ⟨m7, 2, none⟩ = some (.int .u64 BO.x2) ∧ w'.cell? ⟨m7, 3, none⟩ = some (.int .u64 BO.x3) ∧ w'.cell? ⟨m8, 0, none⟩ = some (.int .u64 WT.x0) ∧ w'.cell? ⟨m8, 1, none⟩ = some (.int .u64 WT.x1) ∧ w'.cell? ⟨m8, 2, none⟩ = some (.int .u64 WT.x2) ∧ w'.cell? ⟨m8, 3, none⟩ = some (.int .u64 WT.x3) := fun w' q' => by
      obtain ⟨-, x0, x1, x2, x3, x4, x5, x6, x7, y0, y1, y2, y3, y4, y5, y6, y7, v0, v1, v2, v3, v4, v5, v6, v7, k0, k1, k2, k3, k4, k5, k6, k7⟩ := H3.out w' (I13.out.1.trans q')
      obtain ⟨⟨z0, z1, z2, z3⟩, -⟩ := cells4 (I13.out.2.1.keep q' (fun h => h))
      obtain ⟨⟨j0, j1, j2, j3⟩, -⟩ := cells4 (I13.out.2.2.keep q' (fun h => h))
      exact ⟨q', x0, x1, x2, x3, x4, x5, x6, x7, y0, y1, y2, y3, y4, y5, y6, y7, v0, v1, v2, v3, v4, v5, v6, v7, k0, k1, k2, k3, k4, k5, k6, k7, z0, z1, z2, z3, j0, j1, j2, j3⟩
    have H5 := Lib.hid hS5
    clear hS5
    rcases HWY.out with ⟨rfl, rfl, rfl⟩ | ⟨rfl, rfl, rfl⟩
    · obtain ⟨-, x0, x1, x2, x3, x4, x5, x6, x7, y0, y1, y2, y3, y4, y5, y6, y7, v0, v1, v2, v3, v4, v5, v6, v7, k0, k1, k2, k3, k4, k5, k6, k7, z0, z1, z2, z3, j0, j1, j2, j3⟩ := H5.out _ (Keep.refl _ _)
      go_wp2_with fail
      refine wp_region_noPanic ?_
      refine wp_region_held_drew (S := (fun w' => Keep (fun _ => False) V13 w' ∧ w'.cell? ⟨w.heap.size, 0, none⟩ = some (.int .i64 t.kind) ∧ w'.cell? ⟨w.heap.size, 1, none⟩ = some (.int .u64 t.set.x0) ∧ w'.cell? ⟨w.heap.size, 2, none⟩ = some (.int .u64 t.set.x1) ∧ w'.cell? ⟨w.heap.size, 3, none⟩ = some (.int .u64 t.set.x2) ∧ w'.cell? ⟨w.heap.size, 4, none⟩ = some (.int .u64 t.set.x3) ∧ w'.cell? ⟨w.heap.size, 5, none⟩ = some (.int .i64 t.mn) ∧ w'.cell? ⟨w.heap.size, 6, none⟩ = some (.int .i64 t.mx) ∧ w'.cell? ⟨w.heap.size, 7, none⟩ = some (.slice a t.subs.length c) ∧ w'.cell? ⟨(w.heap.size + 1), 0, none⟩ = some (.int .i64 u.kind) ∧ w'.cell? ⟨(w.heap.size + 1), 1, none⟩ = some (.int .u64 u.set.x0) ∧ w'.cell? ⟨(w.heap.size + 1), 2, none⟩ = some (.int .u64 u.set.x1) ∧ w'.cell? ⟨(w.heap.size + 1), 3, none⟩ = some (.int .u64 u.set.x2) ∧ w'.cell? ⟨(w.heap.size + 1), 4, none⟩ = some (.int .u64 u.set.x3) ∧ w'.cell? ⟨(w.heap.size + 1), 5, none⟩ = some (.int .i64 u.mn) ∧ w'.cell? ⟨(w.heap.size + 1), 6, none⟩ = some (.int .i64 u.mx) ∧ w'.cell? ⟨(w.heap.size + 1), 7, none⟩ = some (.slice b u.subs.length d) ∧ w'.cell? ⟨p5, 0, none⟩ = some (.int .i64 4) ∧ w'.cell? ⟨p5, 1, none⟩ = some (.int .u64 0) ∧ w'.cell? ⟨p5, 2, none⟩ = some (.int .u64 0) ∧ w'.cell? ⟨p5, 3, none⟩ = some (.int .u64 0) ∧ w'.cell? ⟨p5, 4, none⟩ = some (.int .u64 0) ∧ w'.cell? ⟨p5, 5, none⟩ = some (.int .i64 0) ∧ w'.cell? ⟨p5, 6, none⟩ = some (.int .i64 0) ∧ w'.cell? ⟨p5, 7, none⟩ = some (.slice (some ⟨s1, 0, none⟩) 2 2) ∧ w'.cell? ⟨p6, 0, none⟩ = some (.int .i64 3) ∧ w'.cell? ⟨p6, 1, none⟩ = some (.int .u64 0) ∧ w'.cell? ⟨p6, 2, none⟩ = some (.int .u64 0) ∧ w'.cell? ⟨p6, 3, none⟩ = some (.int .u64 0) ∧ w'.cell? ⟨p6, 4, none⟩ = some (.int .u64 0) ∧ w'.cell? ⟨p6, 5, none⟩ = some (.int .i64 0) ∧ w'.cell? ⟨p6, 6, none⟩ = some (.int .i64 0) ∧ w'.cell? ⟨p6, 7, none⟩ = some (.slice (some ⟨s2, 0, none⟩) 2 2) ∧ w'.cell? ⟨m7, 0, none⟩ = some (.int .u64 BO.x0) ∧ w'.cell? ⟨m7, 1, none⟩ = some (.int .u64 BO.x1) ∧ w'.cell? ⟨m7, 2, none⟩ = some (.int .u64 BO.x2) ∧ w'.cell? ⟨m7, 3, none⟩ = some (.int .u64 BO.x3) ∧ w'.cell? ⟨m8, 0, none⟩ = some (.int .u64 WT.x0) ∧ w'.cell? ⟨m8, 1, none⟩ = some (.int .u64 WT.x1) ∧ w'.cell? ⟨m8, 2, none⟩ = some (.int .u64 WT.x2) ∧ w'.cell? ⟨m8, 3, none⟩ = some (.int .u64 WT.x3))) (by kernel_rfl) ?_ (fun hHeld => ?_)
      · exact H5.out _ ((Keep.refl _ _).drew)
      refine wpAnyH_take (i := 0) (oi := { dst := some 52, op := Go.Op.load 27 (Go.Operand.tmp 5), type := 27, pos := "law.go:88", after := #[], guard := none }) (v := ?_) rfl (by kernel_rfl) (by kernel_rfl) (by kernel_rfl) (fun _ _ _ h => h) (Or.inl ⟨by rfl, ?_⟩) (by assumption) ?_
      rotate_left 1
      · (intro w hSw; (try dsimp only at hSw); go_simp; first | done | with_reducible rfl)
      try simp only [Act.put, List.setIfInBounds_toArray, List.set_cons_zero, List.set_cons_succ]
      refine wpAnyH_take (i := 2) (oi := { dst := some 54, op := Go.Op.load 24 (Go.Operand.tmp 7), type := 24, pos := "law.go:88", after := #[], guard := none }) (v := ?_) rfl (by kernel_rfl) (by kernel_rfl) (by kernel_rfl) (fun _ _ _ h => h) (Or.inl ⟨by rfl, ?_⟩) (by assumption) ?_
      rotate_left 1
      · (intro w hSw; (try dsimp only at hSw); go_simp; first | done | with_reducible rfl)
      try simp only [Act.put, List.setIfInBounds_toArray, List.set_cons_zero, List.set_cons_succ]
      refine wpAnyH_ready (rs := [1]) (by kernel_rfl) (by simp) ?_
      refine (AllReadyH.cons (o := { dst := some 53, op := Go.Op.call { callee := Go.Callee.value (Go.Operand.func 16), args := #[Go.Operand.tmp 52], argTypes := #[27] }, type := 24, pos := "law.go:88", after := #[{ on := 0, ground := Go.Ground.data }], guard := none }) rfl (fun K hK => ?_) AllReadyH.nil)
      go_simp
      go_at_call 16; refine (HX.out.2.2.1 _ (I13.out.1.trans (And.left hHeld))).mono ?_; rintro e w20 ⟨rfl, q⟩
      refine hK.out _ _ ?_ (fun hHeld' => ?_)
      · exact H5.out _ (Keep.trans (And.left hHeld) q)
      clear hK K hHeld
      have hHeld := hHeld'
      clear hHeld'
      try simp only [Act.put, List.setIfInBounds_toArray, List.set_cons_zero, List.set_cons_succ]
      refine wpAnyH_take (i := 3) (oi := { dst := some 55, op := Go.Op.binOp Go.BinOp.eql 24 (Go.Operand.tmp 53) (Go.Operand.tmp 54) 24, type := 4, pos := "law.go:88", after := #[{ on := 1, ground := Go.Ground.data }, { on := 2, ground := Go.Ground.data }], guard := none }) (v := ?_) rfl (by kernel_rfl) (by kernel_rfl) (by kernel_rfl) (fun _ _ _ h => h) (Or.inl ⟨by rfl, ?_⟩) (by assumption) ?_
      rotate_left 1
      · (intro w hSw; (try dsimp only at hSw); go_simp; first | done | with_reducible rfl)
      try simp only [Act.put, List.setIfInBounds_toArray, List.set_cons_zero, List.set_cons_succ]
      refine wpAnyH_take (i := 4) (oi := { dst := some 56, op := Go.Op.move (Go.Operand.tmp 55), type := 4, pos := "law.go:88", after := #[{ on := 3, ground := Go.Ground.data }, { on := 1, ground := Go.Ground.chain }], guard := none }) (v := ?_) rfl (by kernel_rfl) (by kernel_rfl) (by kernel_rfl) (fun _ _ _ h => h) (Or.inl ⟨by rfl, ?_⟩) (by assumption) ?_
      rotate_left 1
      · (intro w hSw; (try dsimp only at hSw); go_simp; first | done | with_reducible rfl)
      try simp only [Act.put, List.setIfInBounds_toArray, List.set_cons_zero, List.set_cons_succ]
      refine wpAnyH_take (i := 5) (oi := { dst := some 57, op := Go.Op.load 27 (Go.Operand.tmp 6), type := 27, pos := "law.go:88", after := #[{ on := 4, ground := Go.Ground.guard }], guard := some (4, true) }) (v := ?_) rfl (by kernel_rfl) (by kernel_rfl) (by kernel_rfl) (fun _ _ _ h => h) (Or.inl ⟨by rfl, ?_⟩) (by assumption) ?_
      rotate_left 1
      · (intro w hSw; (try dsimp only at hSw); go_simp; first | done | with_reducible rfl)
      try simp only [Act.put, List.setIfInBounds_toArray, List.set_cons_zero, List.set_cons_succ]
      refine wpAnyH_take (i := 7) (oi := { dst := some 59, op := Go.Op.load 24 (Go.Operand.tmp 8), type := 24, pos := "law.go:88", after := #[{ on := 4, ground := Go.Ground.guard }], guard := some (4, true) }) (v := ?_) rfl (by kernel_rfl) (by kernel_rfl) (by kernel_rfl) (fun _ _ _ h => h) (Or.inl ⟨by rfl, ?_⟩) (by assumption) ?_
      rotate_left 1
      · (intro w hSw; (try dsimp only at hSw); go_simp; first | done | with_reducible rfl)
      try simp only [Act.put, List.setIfInBounds_toArray, List.set_cons_zero, List.set_cons_succ]
      refine wpAnyH_ready (rs := [6]) (by kernel_rfl) (by simp) ?_
      refine (AllReadyH.cons (o := { dst := some 58, op := Go.Op.call { callee := Go.Callee.value (Go.Operand.func 16), args := #[Go.Operand.tmp 57], argTypes := #[27] }, type := 24, pos := "law.go:88", after := #[{ on := 5, ground := Go.Ground.data }, { on := 4, ground := Go.Ground.chain }, { on := 4, ground := Go.Ground.guard }], guard := some (4, true) }) rfl (fun K hK => ?_) AllReadyH.nil)
      go_simp
      go_at_call 16; refine (HX.out.2.2.2.1 _ (I13.out.1.trans (And.left hHeld))).mono ?_; rintro e w20 ⟨rfl, q⟩
      refine hK.out _ _ ?_ (fun hHeld' => ?_)
      · exact H5.out _ (Keep.trans (And.left hHeld) q)
      clear hK K hHeld
      have hHeld := hHeld'
      clear hHeld'
      try simp only [Act.put, List.setIfInBounds_toArray, List.set_cons_zero, List.set_cons_succ]
      refine wpAnyH_take (i := 8) (oi := { dst := some 60, op := Go.Op.binOp Go.BinOp.eql 24 (Go.Operand.tmp 58) (Go.Operand.tmp 59) 24, type := 4, pos := "law.go:88", after := #[{ on := 6, ground := Go.Ground.data }, { on := 7, ground := Go.Ground.data }, { on := 4, ground := Go.Ground.guard }], guard := some (4, true) }) (v := ?_) rfl (by kernel_rfl) (by kernel_rfl) (by kernel_rfl) (fun _ _ _ h => h) (Or.inl ⟨by rfl, ?_⟩) (by assumption) ?_
      rotate_left 1
      · (intro w hSw; (try dsimp only at hSw); go_simp; first | done | with_reducible rfl)
      try simp only [Act.put, List.setIfInBounds_toArray, List.set_cons_zero, List.set_cons_succ]
      refine wpAnyH_take (i := 9) (oi := { dst := some 61, op := Go.Op.pick (Go.Operand.tmp 56) (Go.Operand.tmp 60) (Go.Operand.const (Go.Value.bool false)), type := 4, pos := "law.go:88", after := #[{ on := 4, ground := Go.Ground.data }, { on := 8, ground := Go.Ground.data }], guard := none }) (v := ?_) rfl (by kernel_rfl) (by kernel_rfl) (by kernel_rfl) (fun _ _ _ h => h) (Or.inl ⟨by rfl, ?_⟩) (by assumption) ?_
      rotate_left 1
      · (intro w hSw; (try dsimp only at hSw); go_simp; first | done | with_reducible rfl)
      try simp only [Act.put, List.setIfInBounds_toArray, List.set_cons_zero, List.set_cons_succ]
      refine wpAnyH_take (i := 10) (oi := { dst := some 62, op := Go.Op.move (Go.Operand.tmp 61), type := 4, pos := "law.go:88", after := #[{ on := 9, ground := Go.Ground.data }, { on := 6, ground := Go.Ground.chain }], guard := none }) (v := ?_) rfl (by kernel_rfl) (by kernel_rfl) (by kernel_rfl) (fun _ _ _ h => h) (Or.inl ⟨by rfl, ?_⟩) (by assumption) ?_
      rotate_left 1
      · (intro w hSw; (try dsimp only at hSw); go_simp; first | done | with_reducible rfl)
      try simp only [Act.put, List.setIfInBounds_toArray, List.set_cons_zero, List.set_cons_succ]
      refine wpAnyH_take (i := 11) (oi := { dst := some 63, op := Go.Op.load 27 (Go.Operand.tmp 5), type := 27, pos := "law.go:88", after := #[{ on := 10, ground := Go.Ground.guard }], guard := some (10, true) }) (v := ?_) rfl (by kernel_rfl) (by kernel_rfl) (by kernel_rfl) (fun _ _ _ h => h) (Or.inl ⟨by rfl, ?_⟩) (by assumption) ?_
      rotate_left 1
      · (intro w hSw; (try dsimp only at hSw); go_simp; first | done | with_reducible rfl)
      try simp only [Act.put, List.setIfInBounds_toArray, List.set_cons_zero, List.set_cons_succ]
      refine wpAnyH_take (i := 13) (oi := { dst := some 65, op := Go.Op.load 27 (Go.Operand.tmp 2), type := 27, pos := "law.go:88", after := #[{ on := 10, ground := Go.Ground.guard }], guard := some (10, true) }) (v := ?_) rfl (by kernel_rfl) (by kernel_rfl) (by kernel_rfl) (fun _ _ _ h => h) (Or.inl ⟨by rfl, ?_⟩) (by assumption) ?_
      rotate_left 1
      · (intro w hSw; (try dsimp only at hSw); go_simp; first | done | with_reducible rfl)
      try simp only [Act.put, List.setIfInBounds_toArray, List.set_cons_zero, List.set_cons_succ]
      refine wpAnyH_ready (rs := [12]) (by kernel_rfl) (by simp) ?_
      refine (AllReadyH.cons (o := { dst := some 64, op := Go.Op.call { callee := Go.Callee.value (Go.Operand.func 15), args := #[Go.Operand.tmp 63], argTypes := #[27] }, type := 4, pos := "law.go:88", after := #[{ on := 11, ground := Go.Ground.data }, { on := 10, ground := Go.Ground.chain }, { on := 10, ground := Go.Ground.guard }], guard := some (10, true) }) rfl (fun K hK => ?_) AllReadyH.nil)
      go_simp
      go_at_call 15; refine (HX.out.2.2.2.2.2.2.1 _ (I13.out.1.trans (And.left hHeld))).mono ?_; rintro e w20 ⟨rfl, q⟩
      refine hK.out _ _ ?_ (fun hHeld' => ?_)
      · exact H5.out _ (Keep.trans (And.left hHeld) q)
      clear hK K hHeld
      have hHeld := hHeld'
      clear hHeld'
      try simp only [Act.put, List.setIfInBounds_toArray, List.set_cons_zero, List.set_cons_succ]
      refine wpAnyH_ready (rs := [14]) (by kernel_rfl) (by simp) ?_
      refine (AllReadyH.cons (o := { dst := some 66, op := Go.Op.call { callee := Go.Callee.value (Go.Operand.func 15), args := #[Go.Operand.tmp 65], argTypes := #[27] }, type := 4, pos := "law.go:88", after := #[{ on := 13, ground := Go.Ground.data }, { on := 12, ground := Go.Ground.chain }, { on := 10, ground := Go.Ground.guard }], guard := some (10, true) }) rfl (fun K hK => ?_) AllReadyH.nil)
      go_simp
      go_at_call 15; refine (HX.out.2.2.2.2.1 _ (I13.out.1.trans (And.left hHeld))).mono ?_; rintro e w20 ⟨rfl, q⟩
      refine hK.out _ _ ?_ (fun hHeld' => ?_)
      · exact H5.out _ (Keep.trans (And.left hHeld) q)
      clear hK K hHeld
      have hHeld := hHeld'
      clear hHeld'
      try simp only [Act.put, List.setIfInBounds_toArray, List.set_cons_zero, List.set_cons_succ]
      refine wpAnyH_take (i := 15) (oi := { dst := some 67, op := Go.Op.move (Go.Operand.tmp 66), type := 4, pos := "law.go:88", after := #[{ on := 14, ground := Go.Ground.data }, { on := 14, ground := Go.Ground.chain }, { on := 10, ground := Go.Ground.guard }], guard := some (10, true) }) (v := ?_) rfl (by kernel_rfl) (by kernel_rfl) (by kernel_rfl) (fun _ _ _ h => h) (Or.inl ⟨by rfl, ?_⟩) (by assumption) ?_
      rotate_left 1
      · (intro w hSw; (try dsimp only at hSw); go_simp; first | done | with_reducible rfl)
      try simp only [Act.put, List.setIfInBounds_toArray, List.set_cons_zero, List.set_cons_succ]
      refine wpAnyH_take (i := 16) (oi := { dst := some 68, op := Go.Op.load 27 (Go.Operand.tmp 3), type := 27, pos := "law.go:88", after := #[{ on := 15, ground := Go.Ground.guard }], guard := some (15, false) }) (v := undef) rfl (by kernel_rfl) (by kernel_rfl) (by kernel_rfl) (fun _ _ _ h => h) (Or.inr ⟨by rfl, rfl⟩) (by assumption) ?_
      try simp only [Act.put, List.setIfInBounds_toArray, List.set_cons_zero, List.set_cons_succ]
      refine wpAnyH_take (i := 17) (oi := { dst := some 69, op := Go.Op.call { callee := Go.Callee.value (Go.Operand.func 15), args := #[Go.Operand.tmp 68], argTypes := #[27] }, type := 4, pos := "law.go:88", after := #[{ on := 16, ground := Go.Ground.data }, { on := 15, ground := Go.Ground.chain }, { on := 15, ground := Go.Ground.guard }], guard := some (15, false) }) (v := undef) rfl (by kernel_rfl) (by kernel_rfl) (by kernel_rfl) (fun _ _ _ h => h) (Or.inr ⟨by rfl, rfl⟩) (by assumption) ?_
      try simp only [Act.put, List.setIfInBounds_toArray, List.set_cons_zero, List.set_cons_succ]
      refine wpAnyH_take (i := 18) (oi := { dst := some 70, op := Go.Op.pick (Go.Operand.tmp 67) (Go.Operand.const (Go.Value.bool true)) (Go.Operand.tmp 69), type := 4, pos := "law.go:88", after := #[{ on := 15, ground := Go.Ground.data }, { on := 17, ground := Go.Ground.data }, { on := 10, ground := Go.Ground.guard }], guard := some (10, true) }) (v := ?_) rfl (by kernel_rfl) (by kernel_rfl) (by kernel_rfl) (fun _ _ _ h => h) (Or.inl ⟨by rfl, ?_⟩) (by assumption) ?_
      rotate_left 1
      · (intro w hSw; (try dsimp only at hSw); go_simp; first | done | with_reducible rfl)
      try simp only [Act.put, List.setIfInBounds_toArray, List.set_cons_zero, List.set_cons_succ]
      refine wpAnyH_take (i := 19) (oi := { dst := some 71, op := Go.Op.binOp Go.BinOp.eql 4 (Go.Operand.tmp 64) (Go.Operand.tmp 70) 4, type := 4, pos := "law.go:88", after := #[{ on := 12, ground := Go.Ground.data }, { on := 18, ground := Go.Ground.data }, { on := 10, ground := Go.Ground.guard }], guard := some (10, true) }) (v := .bool true) rfl (by kernel_rfl) (by kernel_rfl) (by kernel_rfl) (fun _ _ _ h => h) (Or.inl ⟨by rfl, ?_⟩) (by assumption) ?_
      · (intro w hSw; (try dsimp only at hSw); go_simp; first | done | simp | rfl)
      try simp only [Act.put, List.setIfInBounds_toArray, List.set_cons_zero, List.set_cons_succ]
      refine wpAnyH_take (i := 20) (oi := { dst := some 72, op := Go.Op.pick (Go.Operand.tmp 62) (Go.Operand.tmp 71) (Go.Operand.const (Go.Value.bool false)), type := 4, pos := "law.go:88", after := #[{ on := 10, ground := Go.Ground.data }, { on := 19, ground := Go.Ground.data }], guard := none }) (v := ?_) rfl (by kernel_rfl) (by kernel_rfl) (by kernel_rfl) (fun _ _ _ h => h) (Or.inl ⟨by rfl, ?_⟩) (by assumption) ?_
      rotate_left 1
      · (intro w hSw; (try dsimp only at hSw); go_simp; first | done | with_reducible rfl)
      try simp only [Act.put, List.setIfInBounds_toArray, List.set_cons_zero, List.set_cons_succ]
      refine wpAnyH_take (i := 21) (oi := { dst := some 73, op := Go.Op.move (Go.Operand.tmp 72), type := 4, pos := "law.go:88", after := #[{ on := 20, ground := Go.Ground.data }, { on := 17, ground := Go.Ground.chain }], guard := none }) (v := ?_) rfl (by kernel_rfl) (by kernel_rfl) (by kernel_rfl) (fun _ _ _ h => h) (Or.inl ⟨by rfl, ?_⟩) (by assumption) ?_
      rotate_left 1
      · (intro w hSw; (try dsimp only at hSw); go_simp; first | done | with_reducible rfl)
      try simp only [Act.put, List.setIfInBounds_toArray, List.set_cons_zero, List.set_cons_succ]
      refine wpAnyH_take (i := 22) (oi := { dst := some 74, op := Go.Op.load 27 (Go.Operand.tmp 6), type := 27, pos := "law.go:88", after := #[{ on := 21, ground := Go.Ground.guard }], guard := some (21, true) }) (v := ?_) rfl (by kernel_rfl) (by kernel_rfl) (by kernel_rfl) (fun _ _ _ h => h) (Or.inl ⟨by rfl, ?_⟩) (by assumption) ?_
      rotate_left 1
      · (intro w hSw; (try dsimp only at hSw); go_simp; first | done | with_reducible rfl)
      try simp only [Act.put, List.setIfInBounds_toArray, List.set_cons_zero, List.set_cons_succ]
      refine wpAnyH_take (i := 24) (oi := { dst := some 76, op := Go.Op.load 27 (Go.Operand.tmp 2), type := 27, pos := "law.go:88", after := #[{ on := 21, ground := Go.Ground.guard }], guard := some (21, true) }) (v := ?_) rfl (by kernel_rfl) (by kernel_rfl) (by kernel_rfl) (fun _ _ _ h => h) (Or.inl ⟨by rfl, ?_⟩) (by assumption) ?_
      rotate_left 1
      · (intro w hSw; (try dsimp only at hSw); go_simp; first | done | with_reducible rfl)
      try simp only [Act.put, List.setIfInBounds_toArray, List.set_cons_zero, List.set_cons_succ]
      refine wpAnyH_ready (rs := [23]) (by kernel_rfl) (by simp) ?_
      refine (AllReadyH.cons (o := { dst := some 75, op := Go.Op.call { callee := Go.Callee.value (Go.Operand.func 15), args := #[Go.Operand.tmp 74], argTypes := #[27] }, type := 4, pos := "law.go:88", after := #[{ on := 22, ground := Go.Ground.data }, { on := 21, ground := Go.Ground.chain }, { on := 21, ground := Go.Ground.guard }], guard := some (21, true) }) rfl (fun K hK => ?_) AllReadyH.nil)
      go_simp
      go_at_call 15; refine (HX.out.2.2.2.2.2.2.2.1 _ (I13.out.1.trans (And.left hHeld))).mono ?_; rintro e w20 ⟨rfl, q⟩
      refine hK.out _ _ ?_ (fun hHeld' => ?_)
      · exact H5.out _ (Keep.trans (And.left hHeld) q)
      clear hK K hHeld
      have hHeld := hHeld'
      clear hHeld'
      try simp only [Act.put, List.setIfInBounds_toArray, List.set_cons_zero, List.set_cons_succ]
      refine wpAnyH_ready (rs := [25]) (by kernel_rfl) (by simp) ?_
      refine (AllReadyH.cons (o := { dst := some 77, op := Go.Op.call { callee := Go.Callee.value (Go.Operand.func 15), args := #[Go.Operand.tmp 76], argTypes := #[27] }, type := 4, pos := "law.go:88", after := #[{ on := 24, ground := Go.Ground.data }, { on := 23, ground := Go.Ground.chain }, { on := 21, ground := Go.Ground.guard }], guard := some (21, true) }) rfl (fun K hK => ?_) AllReadyH.nil)
      go_simp
      go_at_call 15; refine (HX.out.2.2.2.2.1 _ (I13.out.1.trans (And.left hHeld))).mono ?_; rintro e w20 ⟨rfl, q⟩
      refine hK.out _ _ ?_ (fun hHeld' => ?_)
      · exact H5.out _ (Keep.trans (And.left hHeld) q)
      clear hK K hHeld
      have hHeld := hHeld'
      clear hHeld'
      try simp only [Act.put, List.setIfInBounds_toArray, List.set_cons_zero, List.set_cons_succ]
      refine wpAnyH_take (i := 26) (oi := { dst := some 78, op := Go.Op.move (Go.Operand.tmp 77), type := 4, pos := "law.go:88", after := #[{ on := 25, ground := Go.Ground.data }, { on := 25, ground := Go.Ground.chain }, { on := 21, ground := Go.Ground.guard }], guard := some (21, true) }) (v := ?_) rfl (by kernel_rfl) (by kernel_rfl) (by kernel_rfl) (fun _ _ _ h => h) (Or.inl ⟨by rfl, ?_⟩) (by assumption) ?_
      rotate_left 1
      · (intro w hSw; (try dsimp only at hSw); go_simp; first | done | with_reducible rfl)
      try simp only [Act.put, List.setIfInBounds_toArray, List.set_cons_zero, List.set_cons_succ]
      refine wpAnyH_take (i := 27) (oi := { dst := some 79, op := Go.Op.load 27 (Go.Operand.tmp 3), type := 27, pos := "law.go:88", after := #[{ on := 26, ground := Go.Ground.guard }], guard := some (26, true) }) (v := ?_) rfl (by kernel_rfl) (by kernel_rfl) (by kernel_rfl) (fun _ _ _ h => h) (Or.inl ⟨by rfl, ?_⟩) (by assumption) ?_
      rotate_left 1
      · (intro w hSw; (try dsimp only at hSw); go_simp; first | done | with_reducible rfl)
      try simp only [Act.put, List.setIfInBounds_toArray, List.set_cons_zero, List.set_cons_succ]
      refine wpAnyH_ready (rs := [28]) (by kernel_rfl) (by simp) ?_
      refine (AllReadyH.cons (o := { dst := some 80, op := Go.Op.call { callee := Go.Callee.value (Go.Operand.func 15), args := #[Go.Operand.tmp 79], argTypes := #[27] }, type := 4, pos := "law.go:88", after := #[{ on := 27, ground := Go.Ground.data }, { on := 26, ground := Go.Ground.chain }, { on := 26, ground := Go.Ground.guard }], guard := some (26, true) }) rfl (fun K hK => ?_) AllReadyH.nil)
      go_simp
      go_at_call 15; refine (HX.out.2.2.2.2.2.1 _ (I13.out.1.trans (And.left hHeld))).mono ?_; rintro e w20 ⟨rfl, q⟩
      refine hK.out _ _ ?_ (fun hHeld' => ?_)
      · exact H5.out _ (Keep.trans (And.left hHeld) q)
      clear hK K hHeld
      have hHeld := hHeld'
      clear hHeld'
      try simp only [Act.put, List.setIfInBounds_toArray, List.set_cons_zero, List.set_cons_succ]
      refine wpAnyH_take (i := 29) (oi := { dst := some 81, op := Go.Op.pick (Go.Operand.tmp 78) (Go.Operand.tmp 80) (Go.Operand.const (Go.Value.bool false)), type := 4, pos := "law.go:88", after := #[{ on := 26, ground := Go.Ground.data }, { on := 28, ground := Go.Ground.data }, { on := 21, ground := Go.Ground.guard }], guard := some (21, true) }) (v := ?_) rfl (by kernel_rfl) (by kernel_rfl) (by kernel_rfl) (fun _ _ _ h => h) (Or.inl ⟨by rfl, ?_⟩) (by assumption) ?_
      rotate_left 1
      · (intro w hSw; (try dsimp only at hSw); go_simp; first | done | with_reducible rfl)
      try simp only [Act.put, List.setIfInBounds_toArray, List.set_cons_zero, List.set_cons_succ]
      refine wpAnyH_take (i := 30) (oi := { dst := some 82, op := Go.Op.binOp Go.BinOp.eql 4 (Go.Operand.tmp 75) (Go.Operand.tmp 81) 4, type := 4, pos := "law.go:88", after := #[{ on := 23, ground := Go.Ground.data }, { on := 29, ground := Go.Ground.data }, { on := 21, ground := Go.Ground.guard }], guard := some (21, true) }) (v := .bool true) rfl (by kernel_rfl) (by kernel_rfl) (by kernel_rfl) (fun _ _ _ h => h) (Or.inl ⟨by rfl, ?_⟩) (by assumption) ?_
      · (intro w hSw; (try dsimp only at hSw); go_simp; first | done | simp | rfl)
      try simp only [Act.put, List.setIfInBounds_toArray, List.set_cons_zero, List.set_cons_succ]
      refine wpAnyH_take (i := 31) (oi := { dst := some 83, op := Go.Op.pick (Go.Operand.tmp 73) (Go.Operand.tmp 82) (Go.Operand.const (Go.Value.bool false)), type := 4, pos := "law.go:88", after := #[{ on := 21, ground := Go.Ground.data }, { on := 30, ground := Go.Ground.data }], guard := none }) (v := ?_) rfl (by kernel_rfl) (by kernel_rfl) (by kernel_rfl) (fun _ _ _ h => h) (Or.inl ⟨by rfl, ?_⟩) (by assumption) ?_
      rotate_left 1
      · (intro w hSw; (try dsimp only at hSw); go_simp; first | done | with_reducible rfl)
      try simp only [Act.put, List.setIfInBounds_toArray, List.set_cons_zero, List.set_cons_succ]
      refine wpAnyH_take (i := 32) (oi := { dst := some 84, op := Go.Op.move (Go.Operand.tmp 83), type := 4, pos := "law.go:88", after := #[{ on := 31, ground := Go.Ground.data }, { on := 28, ground := Go.Ground.chain }], guard := none }) (v := ?_) rfl (by kernel_rfl) (by kernel_rfl) (by kernel_rfl) (fun _ _ _ h => h) (Or.inl ⟨by rfl, ?_⟩) (by assumption) ?_
      rotate_left 1
      · (intro w hSw; (try dsimp only at hSw); go_simp; first | done | with_reducible rfl)
      try simp only [Act.put, List.setIfInBounds_toArray, List.set_cons_zero, List.set_cons_succ]
      refine wpAnyH_take (i := 33) (oi := { dst := some 85, op := Go.Op.load 27 (Go.Operand.tmp 5), type := 27, pos := "law.go:88", after := #[{ on := 32, ground := Go.Ground.guard }], guard := some (32, true) }) (v := ?_) rfl (by kernel_rfl) (by kernel_rfl) (by kernel_rfl) (fun _ _ _ h => h) (Or.inl ⟨by rfl, ?_⟩) (by assumption) ?_
      rotate_left 1
      · (intro w hSw; (try dsimp only at hSw); go_simp; first | done | with_reducible rfl)
      try simp only [Act.put, List.setIfInBounds_toArray, List.set_cons_zero, List.set_cons_succ]
      refine wpAnyH_take (i := 35) (oi := { dst := some 87, op := Go.Op.load 27 (Go.Operand.tmp 6), type := 27, pos := "law.go:88", after := #[{ on := 32, ground := Go.Ground.guard }], guard := some (32, true) }) (v := ?_) rfl (by kernel_rfl) (by kernel_rfl) (by kernel_rfl) (fun _ _ _ h => h) (Or.inl ⟨by rfl, ?_⟩) (by assumption) ?_
      rotate_left 1
      · (intro w hSw; (try dsimp only at hSw); go_simp; first | done | with_reducible rfl)
      try simp only [Act.put, List.setIfInBounds_toArray, List.set_cons_zero, List.set_cons_succ]
      refine wpAnyH_ready (rs := [34]) (by kernel_rfl) (by simp) ?_
      refine (AllReadyH.cons (o := { dst := some 86, op := Go.Op.call { callee := Go.Callee.value (Go.Operand.func 14), args := #[Go.Operand.tmp 85], argTypes := #[27] }, type := 3, pos := "law.go:88", after := #[{ on := 33, ground := Go.Ground.data }, { on := 32, ground := Go.Ground.chain }, { on := 32, ground := Go.Ground.guard }], guard := some (32, true) }) rfl (fun K hK => ?_) AllReadyH.nil)
      go_simp
      go_at_call 14; refine (HX.out.2.2.2.2.2.2.2.2.2.2.1 _ (I13.out.1.trans (And.left hHeld))).mono ?_; rintro e w20 ⟨rfl, q⟩
      refine hK.out _ _ ?_ (fun hHeld' => ?_)
      · exact H5.out _ (Keep.trans (And.left hHeld) q)
      clear hK K hHeld
      have hHeld := hHeld'
      clear hHeld'
      try simp only [Act.put, List.setIfInBounds_toArray, List.set_cons_zero, List.set_cons_succ]
      refine wpAnyH_ready (rs := [36]) (by kernel_rfl) (by simp) ?_
      refine (AllReadyH.cons (o := { dst := some 88, op := Go.Op.call { callee := Go.Callee.value (Go.Operand.func 14), args := #[Go.Operand.tmp 87], argTypes := #[27] }, type := 3, pos := "law.go:88", after := #[{ on := 35, ground := Go.Ground.data }, { on := 34, ground := Go.Ground.chain }, { on := 32, ground := Go.Ground.guard }], guard := some (32, true) }) rfl (fun K hK => ?_) AllReadyH.nil)
      go_simp
      go_at_call 14; refine (HX.out.2.2.2.2.2.2.2.2.2.2.2 _ (I13.out.1.trans (And.left hHeld))).mono ?_; rintro e w20 ⟨rfl, q⟩
      refine hK.out _ _ ?_ (fun hHeld' => ?_)
      · exact H5.out _ (Keep.trans (And.left hHeld) q)
      clear hK K hHeld
      have hHeld := hHeld'
      clear hHeld'
      try simp only [Act.put, List.setIfInBounds_toArray, List.set_cons_zero, List.set_cons_succ]
      refine wpAnyH_take (i := 37) (oi := { dst := some 89, op := Go.Op.binOp Go.BinOp.eql 3 (Go.Operand.tmp 86) (Go.Operand.tmp 88) 3, type := 4, pos := "law.go:88", after := #[{ on := 34, ground := Go.Ground.data }, { on := 36, ground := Go.Ground.data }, { on := 32, ground := Go.Ground.guard }], guard := some (32, true) }) (v := ?_) rfl (by kernel_rfl) (by kernel_rfl) (by kernel_rfl) (fun _ _ _ h => h) (Or.inl ⟨by rfl, ?_⟩) (by assumption) ?_
      rotate_left 1
      · (intro w hSw; (try dsimp only at hSw); go_simp; first | done | with_reducible rfl)
      try simp only [Act.put, List.setIfInBounds_toArray, List.set_cons_zero, List.set_cons_succ]
      refine wpAnyH_take (i := 38) (oi := { dst := some 90, op := Go.Op.pick (Go.Operand.tmp 84) (Go.Operand.tmp 89) (Go.Operand.const (Go.Value.bool false)), type := 4, pos := "law.go:88", after := #[{ on := 32, ground := Go.Ground.data }, { on := 37, ground := Go.Ground.data }], guard := none }) (v := ?_) rfl (by kernel_rfl) (by kernel_rfl) (by kernel_rfl) (fun _ _ _ h => h) (Or.inl ⟨by rfl, ?_⟩) (by assumption) ?_
      rotate_left 1
      · (intro w hSw; (try dsimp only at hSw); go_simp; first | done | with_reducible rfl)
      try simp only [Act.put, List.setIfInBounds_toArray, List.set_cons_zero, List.set_cons_succ]
      refine wpAnyH_take (i := 39) (oi := { dst := some 91, op := Go.Op.move (Go.Operand.tmp 90), type := 4, pos := "law.go:88", after := #[{ on := 38, ground := Go.Ground.data }, { on := 36, ground := Go.Ground.chain }], guard := none }) (v := ?_) rfl (by kernel_rfl) (by kernel_rfl) (by kernel_rfl) (fun _ _ _ h => h) (Or.inl ⟨by rfl, ?_⟩) (by assumption) ?_
      rotate_left 1
      · (intro w hSw; (try dsimp only at hSw); go_simp; first | done | with_reducible rfl)
      try simp only [Act.put, List.setIfInBounds_toArray, List.set_cons_zero, List.set_cons_succ]
      refine wpAnyH_take (i := 40) (oi := { dst := some 92, op := Go.Op.load 24 (Go.Operand.tmp 7), type := 24, pos := "law.go:88", after := #[{ on := 39, ground := Go.Ground.guard }], guard := some (39, true) }) (v := ?_) rfl (by kernel_rfl) (by kernel_rfl) (by kernel_rfl) (fun _ _ _ h => h) (Or.inl ⟨by rfl, ?_⟩) (by assumption) ?_
      rotate_left 1
      · (intro w hSw; (try dsimp only at hSw); go_simp; first | done | with_reducible rfl)
      try simp only [Act.put, List.setIfInBounds_toArray, List.set_cons_zero, List.set_cons_succ]
      refine wpAnyH_take (i := 43) (oi := { dst := some 95, op := Go.Op.load 24 (Go.Operand.tmp 8), type := 24, pos := "law.go:88", after := #[{ on := 39, ground := Go.Ground.guard }], guard := some (39, true) }) (v := ?_) rfl (by kernel_rfl) (by kernel_rfl) (by kernel_rfl) (fun _ _ _ h => h) (Or.inl ⟨by rfl, ?_⟩) (by assumption) ?_
      rotate_left 1
      · (intro w hSw; (try dsimp only at hSw); go_simp; first | done | with_reducible rfl)
      try simp only [Act.put, List.setIfInBounds_toArray, List.set_cons_zero, List.set_cons_succ]
      refine wpAnyH_ready (rs := [41]) (by kernel_rfl) (by simp) ?_
      refine (AllReadyH.cons (o := { dst := some 93, op := Go.Op.call { callee := Go.Callee.value (Go.Operand.func 28), args := #[Go.Operand.tmp 92], argTypes := #[24] }, type := 41, pos := "law.go:88", after := #[{ on := 40, ground := Go.Ground.data }, { on := 39, ground := Go.Ground.chain }, { on := 39, ground := Go.Ground.guard }], guard := some (39, true) }) rfl (fun K hK => ?_) AllReadyH.nil)
      go_simp
      go_at_call 28; refine (HLS.out.1 _).mono ?_; rintro e w20 ⟨aL, cL, rfl, q⟩
      refine hK.out _ _ ?_ (fun hHeld' => ?_)
      · exact H5.out _ (Keep.trans (And.left hHeld) q)
      clear hK K hHeld
      have hHeld := hHeld'
      clear hHeld'
      try simp only [Act.put, List.setIfInBounds_toArray, List.set_cons_zero, List.set_cons_succ]
      refine wpAnyH_ready (rs := [42, 44]) (by kernel_rfl) (by simp) ?_
      refine (AllReadyH.cons (o := { dst := some 94, op := Go.Op.call { callee := Go.Callee.builtin Go.Builtin.len, args := #[Go.Operand.tmp 93], argTypes := #[41] }, type := 3, pos := "law.go:88", after := #[{ on := 41, ground := Go.Ground.data }, { on := 39, ground := Go.Ground.guard }], guard := some (39, true) }) rfl (fun K hK => ?_) (AllReadyH.cons (o := { dst := some 96, op := Go.Op.call { callee := Go.Callee.value (Go.Operand.func 28), args := #[Go.Operand.tmp 95], argTypes := #[24] }, type := 41, pos := "law.go:88", after := #[{ on := 43, ground := Go.Ground.data }, { on := 41, ground := Go.Ground.chain }, { on := 39, ground := Go.Ground.guard }], guard := some (39, true) }) rfl (fun K hK => ?_) AllReadyH.nil))
      go_simp
      refine hK.out _ _ ?_ (fun hHeld' => ?_)
      · exact hHeld
      clear hK K hHeld
      have hHeld := hHeld'
      clear hHeld'
      try simp only [Act.put, List.setIfInBounds_toArray, List.set_cons_zero, List.set_cons_succ]
      refine wpAnyH_ready (rs := [44]) (by kernel_rfl) (by simp) ?_
      refine (AllReadyH.cons (o := { dst := some 96, op := Go.Op.call { callee := Go.Callee.value (Go.Operand.func 28), args := #[Go.Operand.tmp 95], argTypes := #[24] }, type := 41, pos := "law.go:88", after := #[{ on := 43, ground := Go.Ground.data }, { on := 41, ground := Go.Ground.chain }, { on := 39, ground := Go.Ground.guard }], guard := some (39, true) }) rfl (fun K hK => ?_) AllReadyH.nil)
      go_simp
      go_at_call 28; refine (HLS.out.2 _).mono ?_; rintro e w20 ⟨aL, cL, rfl, q⟩
      refine hK.out _ _ ?_ (fun hHeld' => ?_)
      · exact H5.out _ (Keep.trans (And.left hHeld) q)
      clear hK K hHeld
      have hHeld := hHeld'
      clear hHeld'
      try simp only [Act.put, List.setIfInBounds_toArray, List.set_cons_zero, List.set_cons_succ]
      refine wpAnyH_ready (rs := [45]) (by kernel_rfl) (by simp) ?_
      refine (AllReadyH.cons (o := { dst := some 97, op := Go.Op.call { callee := Go.Callee.builtin Go.Builtin.len, args := #[Go.Operand.tmp 96], argTypes := #[41] }, type := 3, pos := "law.go:88", after := #[{ on := 44, ground := Go.Ground.data }, { on := 39, ground := Go.Ground.guard }], guard := some (39, true) }) rfl (fun K hK => ?_) AllReadyH.nil)
      go_simp
      refine hK.out _ _ ?_ (fun hHeld' => ?_)
      · exact hHeld
      clear hK K hHeld
      have hHeld := hHeld'
      clear hHeld'
      try simp only [Act.put, List.setIfInBounds_toArray, List.set_cons_zero, List.set_cons_succ]
      refine wpAnyH_take (i := 46) (oi := { dst := some 98, op := Go.Op.binOp Go.BinOp.geq 3 (Go.Operand.tmp 94) (Go.Operand.tmp 97) 3, type := 4, pos := "law.go:88", after := #[{ on := 42, ground := Go.Ground.data }, { on := 45, ground := Go.Ground.data }, { on := 39, ground := Go.Ground.guard }], guard := some (39, true) }) (v := .bool true) rfl (by kernel_rfl) (by kernel_rfl) (by kernel_rfl) (fun _ _ _ h => h) (Or.inl ⟨by rfl, ?_⟩) (by assumption) ?_
      · (intro w hSw; (try dsimp only at hSw); go_simp; first | done | simp [hleI] | (simp; omega))
      try simp only [Act.put, List.setIfInBounds_toArray, List.set_cons_zero, List.set_cons_succ]
      refine wpAnyH_take (i := 47) (oi := { dst := some 99, op := Go.Op.pick (Go.Operand.tmp 91) (Go.Operand.tmp 98) (Go.Operand.const (Go.Value.bool false)), type := 4, pos := "law.go:88", after := #[{ on := 39, ground := Go.Ground.data }, { on := 46, ground := Go.Ground.data }], guard := none }) (v := ?_) rfl (by kernel_rfl) (by kernel_rfl) (by kernel_rfl) (fun _ _ _ h => h) (Or.inl ⟨by rfl, ?_⟩) (by assumption) ?_
      rotate_left 1
      · (intro w hSw; (try dsimp only at hSw); go_simp; first | done | with_reducible rfl)
      try simp only [Act.put, List.setIfInBounds_toArray, List.set_cons_zero, List.set_cons_succ]
      refine wpAnyH_take (i := 48) (oi := { dst := some 4, op := Go.Op.assign (Go.Operand.tmp 99), type := 4, pos := "law.go:88", after := #[{ on := 47, ground := Go.Ground.data }, { on := 44, ground := Go.Ground.chain }, { on := 0, ground := Go.Ground.phase }, { on := 1, ground := Go.Ground.phase }, { on := 2, ground := Go.Ground.phase }, { on := 3, ground := Go.Ground.phase }, { on := 4, ground := Go.Ground.phase }, { on := 5, ground := Go.Ground.phase }, { on := 6, ground := Go.Ground.phase }, { on := 7, ground := Go.Ground.phase }, { on := 8, ground := Go.Ground.phase }, { on := 9, ground := Go.Ground.phase }, { on := 10, ground := Go.Ground.phase }, { on := 11, ground := Go.Ground.phase }, { on := 12, ground := Go.Ground.phase }, { on := 13, ground := Go.Ground.phase }, { on := 14, ground := Go.Ground.phase }, { on := 15, ground := Go.Ground.phase }, { on := 16, ground := Go.Ground.phase }, { on := 17, ground := Go.Ground.phase }, { on := 18, ground := Go.Ground.phase }, { on := 19, ground := Go.Ground.phase }, { on := 20, ground := Go.Ground.phase }, { on := 21, ground := Go.Ground.phase }, { on := 22, ground := Go.Ground.phase }, { on := 23, ground := Go.Ground.phase }, { on := 24, ground := Go.Ground.phase }, { on := 25, ground := Go.Ground.phase }, { on := 26, ground := Go.Ground.phase }, { on := 27, ground := Go.Ground.phase }, { on := 28, ground := Go.Ground.phase }, { on := 29, ground := Go.Ground.phase }, { on := 30, ground := Go.Ground.phase }, { on := 31, ground := Go.Ground.phase }, { on := 32, ground := Go.Ground.phase }, { on := 33, ground := Go.Ground.phase }, { on := 34, ground := Go.Ground.phase }, { on := 35, ground := Go.Ground.phase }, { on := 36, ground := Go.Ground.phase }, { on := 37, ground := Go.Ground.phase }, { on := 38, ground := Go.Ground.phase }, { on := 39, ground := Go.Ground.phase }, { on := 40, ground := Go.Ground.phase }, { on := 41, ground := Go.Ground.phase }, { on := 42, ground := Go.Ground.phase }, { on := 43, ground := Go.Ground.phase }, { on := 44, ground := Go.Ground.phase }, { on := 45, ground := Go.Ground.phase }, { on := 46, ground := Go.Ground.phase }, { on := 47, ground := Go.Ground.phase }], guard := none }) (v := ?_) rfl (by kernel_rfl) (by kernel_rfl) (by kernel_rfl) (fun _ _ _ h => h) (Or.inl ⟨by rfl, ?_⟩) (by assumption) ?_
      rotate_left 1
      · (intro w hSw; (try dsimp only at hSw); go_simp; first | done | with_reducible rfl)
      try simp only [Act.put, List.setIfInBounds_toArray, List.set_cons_zero, List.set_cons_succ]
      refine wpAnyH_done (by kernel_rfl) ?_ _
      refine NoPanic.normal ?_
      rotate_left 1
      go_simp
      go_at_call 28; refine (HLS.out.2 _).mono ?_; rintro e w20 ⟨aL, cL, rfl, q⟩
      refine hK.out _ _ ?_ (fun hHeld' => ?_)
      · exact H5.out _ (Keep.trans (And.left hHeld) q)
      clear hK K hHeld
      have hHeld := hHeld'
      clear hHeld'
      try simp only [Act.put, List.setIfInBounds_toArray, List.set_cons_zero, List.set_cons_succ]
      refine wpAnyH_ready (rs := [42, 45]) (by kernel_rfl) (by simp) ?_
      refine (AllReadyH.cons (o := { dst := some 94, op := Go.Op.call { callee := Go.Callee.builtin Go.Builtin.len, args := #[Go.Operand.tmp 93], argTypes := #[41] }, type := 3, pos := "law.go:88", after := #[{ on := 41, ground := Go.Ground.data }, { on := 39, ground := Go.Ground.guard }], guard := some (39, true) }) rfl (fun K hK => ?_) (AllReadyH.cons (o := { dst := some 97, op := Go.Op.call { callee := Go.Callee.builtin Go.Builtin.len, args := #[Go.Operand.tmp 96], argTypes := #[41] }, type := 3, pos := "law.go:88", after := #[{ on := 44, ground := Go.Ground.data }, { on := 39, ground := Go.Ground.guard }], guard := some (39, true) }) rfl (fun K hK => ?_) AllReadyH.nil))
      go_simp
      refine hK.out _ _ ?_ (fun hHeld' => ?_)
      · exact hHeld
      clear hK K hHeld
      have hHeld := hHeld'
      clear hHeld'
      try simp only [Act.put, List.setIfInBounds_toArray, List.set_cons_zero, List.set_cons_succ]
      refine wpAnyH_ready (rs := [45]) (by kernel_rfl) (by simp) ?_
      refine (AllReadyH.cons (o := { dst := some 97, op := Go.Op.call { callee := Go.Callee.builtin Go.Builtin.len, args := #[Go.Operand.tmp 96], argTypes := #[41] }, type := 3, pos := "law.go:88", after := #[{ on := 44, ground := Go.Ground.data }, { on := 39, ground := Go.Ground.guard }], guard := some (39, true) }) rfl (fun K hK => ?_) AllReadyH.nil)
      go_simp
      refine hK.out _ _ ?_ (fun hHeld' => ?_)
      · exact hHeld
      clear hK K hHeld
      have hHeld := hHeld'
      clear hHeld'
      try simp only [Act.put, List.setIfInBounds_toArray, List.set_cons_zero, List.set_cons_succ]
      refine wpAnyH_take (i := 46) (oi := { dst := some 98, op := Go.Op.binOp Go.BinOp.geq 3 (Go.Operand.tmp 94) (Go.Operand.tmp 97) 3, type := 4, pos := "law.go:88", after := #[{ on := 42, ground := Go.Ground.data }, { on := 45, ground := Go.Ground.data }, { on := 39, ground := Go.Ground.guard }], guard := some (39, true) }) (v := .bool true) rfl (by kernel_rfl) (by kernel_rfl) (by kernel_rfl) (fun _ _ _ h => h) (Or.inl ⟨by rfl, ?_⟩) (by assumption) ?_
      · (intro w hSw; (try dsimp only at hSw); go_simp; first | done | simp [hleI] | (simp; omega))
      try simp only [Act.put, List.setIfInBounds_toArray, List.set_cons_zero, List.set_cons_succ]
      refine wpAnyH_take (i := 47) (oi := { dst := some 99, op := Go.Op.pick (Go.Operand.tmp 91) (Go.Operand.tmp 98) (Go.Operand.const (Go.Value.bool false)), type := 4, pos := "law.go:88", after := #[{ on := 39, ground := Go.Ground.data }, { on := 46, ground := Go.Ground.data }], guard := none }) (v := ?_) rfl (by kernel_rfl) (by kernel_rfl) (by kernel_rfl) (fun _ _ _ h => h) (Or.inl ⟨by rfl, ?_⟩) (by assumption) ?_
      rotate_left 1
      · (intro w hSw; (try dsimp only at hSw); go_simp; first | done | with_reducible rfl)
      try simp only [Act.put, List.setIfInBounds_toArray, List.set_cons_zero, List.set_cons_succ]
      refine wpAnyH_take (i := 48) (oi := { dst := some 4, op := Go.Op.assign (Go.Operand.tmp 99), type := 4, pos := "law.go:88", after := #[{ on := 47, ground := Go.Ground.data }, { on := 44, ground := Go.Ground.chain }, { on := 0, ground := Go.Ground.phase }, { on := 1, ground := Go.Ground.phase }, { on := 2, ground := Go.Ground.phase }, { on := 3, ground := Go.Ground.phase }, { on := 4, ground := Go.Ground.phase }, { on := 5, ground := Go.Ground.phase }, { on := 6, ground := Go.Ground.phase }, { on := 7, ground := Go.Ground.phase }, { on := 8, ground := Go.Ground.phase }, { on := 9, ground := Go.Ground.phase }, { on := 10, ground := Go.Ground.phase }, { on := 11, ground := Go.Ground.phase }, { on := 12, ground := Go.Ground.phase }, { on := 13, ground := Go.Ground.phase }, { on := 14, ground := Go.Ground.phase }, { on := 15, ground := Go.Ground.phase }, { on := 16, ground := Go.Ground.phase }, { on := 17, ground := Go.Ground.phase }, { on := 18, ground := Go.Ground.phase }, { on := 19, ground := Go.Ground.phase }, { on := 20, ground := Go.Ground.phase }, { on := 21, ground := Go.Ground.phase }, { on := 22, ground := Go.Ground.phase }, { on := 23, ground := Go.Ground.phase }, { on := 24, ground := Go.Ground.phase }, { on := 25, ground := Go.Ground.phase }, { on := 26, ground := Go.Ground.phase }, { on := 27, ground := Go.Ground.phase }, { on := 28, ground := Go.Ground.phase }, { on := 29, ground := Go.Ground.phase }, { on := 30, ground := Go.Ground.phase }, { on := 31, ground := Go.Ground.phase }, { on := 32, ground := Go.Ground.phase }, { on := 33, ground := Go.Ground.phase }, { on := 34, ground := Go.Ground.phase }, { on := 35, ground := Go.Ground.phase }, { on := 36, ground := Go.Ground.phase }, { on := 37, ground := Go.Ground.phase }, { on := 38, ground := Go.Ground.phase }, { on := 39, ground := Go.Ground.phase }, { on := 40, ground := Go.Ground.phase }, { on := 41, ground := Go.Ground.phase }, { on := 42, ground := Go.Ground.phase }, { on := 43, ground := Go.Ground.phase }, { on := 44, ground := Go.Ground.phase }, { on := 45, ground := Go.Ground.phase }, { on := 46, ground := Go.Ground.phase }, { on := 47, ground := Go.Ground.phase }], guard := none }) (v := ?_) rfl (by kernel_rfl) (by kernel_rfl) (by kernel_rfl) (fun _ _ _ h => h) (Or.inl ⟨by rfl, ?_⟩) (by assumption) ?_
      rotate_left 1
      · (intro w hSw; (try dsimp only at hSw); go_simp; first | done | with_reducible rfl)
      try simp only [Act.put, List.setIfInBounds_toArray, List.set_cons_zero, List.set_cons_succ]
      refine wpAnyH_done (by kernel_rfl) ?_ _
      refine NoPanic.normal ?_
      rotate_left 1
      go_simp
      refine hK.out _ _ ?_ (fun hHeld' => ?_)
      · exact hHeld
      clear hK K hHeld
      have hHeld := hHeld'
      clear hHeld'
      try simp only [Act.put, List.setIfInBounds_toArray, List.set_cons_zero, List.set_cons_succ]
      refine wpAnyH_ready (rs := [42]) (by kernel_rfl) (by simp) ?_
      refine (AllReadyH.cons (o := { dst := some 94, op := Go.Op.call { callee := Go.Callee.builtin Go.Builtin.len, args := #[Go.Operand.tmp 93], argTypes := #[41] }, type := 3, pos := "law.go:88", after := #[{ on := 41, ground := Go.Ground.data }, { on := 39, ground := Go.Ground.guard }], guard := some (39, true) }) rfl (fun K hK => ?_) AllReadyH.nil)
      go_simp
      refine hK.out _ _ ?_ (fun hHeld' => ?_)
      · exact hHeld
      clear hK K hHeld
      have hHeld := hHeld'
      clear hHeld'
      try simp only [Act.put, List.setIfInBounds_toArray, List.set_cons_zero, List.set_cons_succ]
      refine wpAnyH_take (i := 46) (oi := { dst := some 98, op := Go.Op.binOp Go.BinOp.geq 3 (Go.Operand.tmp 94) (Go.Operand.tmp 97) 3, type := 4, pos := "law.go:88", after := #[{ on := 42, ground := Go.Ground.data }, { on := 45, ground := Go.Ground.data }, { on := 39, ground := Go.Ground.guard }], guard := some (39, true) }) (v := .bool true) rfl (by kernel_rfl) (by kernel_rfl) (by kernel_rfl) (fun _ _ _ h => h) (Or.inl ⟨by rfl, ?_⟩) (by assumption) ?_
      · (intro w hSw; (try dsimp only at hSw); go_simp; first | done | simp [hleI] | (simp; omega))
      try simp only [Act.put, List.setIfInBounds_toArray, List.set_cons_zero, List.set_cons_succ]
      refine wpAnyH_take (i := 47) (oi := { dst := some 99, op := Go.Op.pick (Go.Operand.tmp 91) (Go.Operand.tmp 98) (Go.Operand.const (Go.Value.bool false)), type := 4, pos := "law.go:88", after := #[{ on := 39, ground := Go.Ground.data }, { on := 46, ground := Go.Ground.data }], guard := none }) (v := ?_) rfl (by kernel_rfl) (by kernel_rfl) (by kernel_rfl) (fun _ _ _ h => h) (Or.inl ⟨by rfl, ?_⟩) (by assumption) ?_
      rotate_left 1
      · (intro w hSw; (try dsimp only at hSw); go_simp; first | done | with_reducible rfl)
      try simp only [Act.put, List.setIfInBounds_toArray, List.set_cons_zero, List.set_cons_succ]
      refine wpAnyH_take (i := 48) (oi := { dst := some 4, op := Go.Op.assign (Go.Operand.tmp 99), type := 4, pos := "law.go:88", after := #[{ on := 47, ground := Go.Ground.data }, { on := 44, ground := Go.Ground.chain }, { on := 0, ground := Go.Ground.phase }, { on := 1, ground := Go.Ground.phase }, { on := 2, ground := Go.Ground.phase }, { on := 3, ground := Go.Ground.phase }, { on := 4, ground := Go.Ground.phase }, { on := 5, ground := Go.Ground.phase }, { on := 6, ground := Go.Ground.phase }, { on := 7, ground := Go.Ground.phase }, { on := 8, ground := Go.Ground.phase }, { on := 9, ground := Go.Ground.phase }, { on := 10, ground := Go.Ground.phase }, { on := 11, ground := Go.Ground.phase }, { on := 12, ground := Go.Ground.phase }, { on := 13, ground := Go.Ground.phase }, { on := 14, ground := Go.Ground.phase }, { on := 15, ground := Go.Ground.phase }, { on := 16, ground := Go.Ground.phase }, { on := 17, ground := Go.Ground.phase }, { on := 18, ground := Go.Ground.phase }, { on := 19, ground := Go.Ground.phase }, { on := 20, ground := Go.Ground.phase }, { on := 21, ground := Go.Ground.phase }, { on := 22, ground := Go.Ground.phase }, { on := 23, ground := Go.Ground.phase }, { on := 24, ground := Go.Ground.phase }, { on := 25, ground := Go.Ground.phase }, { on := 26, ground := Go.Ground.phase }, { on := 27, ground := Go.Ground.phase }, { on := 28, ground := Go.Ground.phase }, { on := 29, ground := Go.Ground.phase }, { on := 30, ground := Go.Ground.phase }, { on := 31, ground := Go.Ground.phase }, { on := 32, ground := Go.Ground.phase }, { on := 33, ground := Go.Ground.phase }, { on := 34, ground := Go.Ground.phase }, { on := 35, ground := Go.Ground.phase }, { on := 36, ground := Go.Ground.phase }, { on := 37, ground := Go.Ground.phase }, { on := 38, ground := Go.Ground.phase }, { on := 39, ground := Go.Ground.phase }, { on := 40, ground := Go.Ground.phase }, { on := 41, ground := Go.Ground.phase }, { on := 42, ground := Go.Ground.phase }, { on := 43, ground := Go.Ground.phase }, { on := 44, ground := Go.Ground.phase }, { on := 45, ground := Go.Ground.phase }, { on := 46, ground := Go.Ground.phase }, { on := 47, ground := Go.Ground.phase }], guard := none }) (v := ?_) rfl (by kernel_rfl) (by kernel_rfl) (by kernel_rfl) (fun _ _ _ h => h) (Or.inl ⟨by rfl, ?_⟩) (by assumption) ?_
      rotate_left 1
      · (intro w hSw; (try dsimp only at hSw); go_simp; first | done | with_reducible rfl)
      try simp only [Act.put, List.setIfInBounds_toArray, List.set_cons_zero, List.set_cons_succ]
      refine wpAnyH_done (by kernel_rfl) ?_ _
      refine NoPanic.normal ?_
      rotate_left 1
      all_goals
        have HK := Lib.hid (HP.out.trans (I13.out.1.trans hHeld.1))
        clear hHeld
        go_wp2_with fail
        go_ret
        exact ⟨rfl, HK.out⟩
    · obtain ⟨-, x0, x1, x2, x3, x4, x5, x6, x7, y0, y1, y2, y3, y4, y5, y6, y7, v0, v1, v2, v3, v4, v5, v6, v7, k0, k1, k2, k3, k4, k5, k6, k7, z0, z1, z2, z3, j0, j1, j2, j3⟩ := H5.out _ (Keep.refl _ _)
      go_wp2_with fail
      refine wp_region_noPanic ?_
      refine wp_region_held_drew (S := (fun w' => Keep (fun _ => False) V13 w' ∧ w'.cell? ⟨w.heap.size, 0, none⟩ = some (.int .i64 t.kind) ∧ w'.cell? ⟨w.heap.size, 1, none⟩ = some (.int .u64 t.set.x0) ∧ w'.cell? ⟨w.heap.size, 2, none⟩ = some (.int .u64 t.set.x1) ∧ w'.cell? ⟨w.heap.size, 3, none⟩ = some (.int .u64 t.set.x2) ∧ w'.cell? ⟨w.heap.size, 4, none⟩ = some (.int .u64 t.set.x3) ∧ w'.cell? ⟨w.heap.size, 5, none⟩ = some (.int .i64 t.mn) ∧ w'.cell? ⟨w.heap.size, 6, none⟩ = some (.int .i64 t.mx) ∧ w'.cell? ⟨w.heap.size, 7, none⟩ = some (.slice a t.subs.length c) ∧ w'.cell? ⟨(w.heap.size + 1), 0, none⟩ = some (.int .i64 u.kind) ∧ w'.cell? ⟨(w.heap.size + 1), 1, none⟩ = some (.int .u64 u.set.x0) ∧ w'.cell? ⟨(w.heap.size + 1), 2, none⟩ = some (.int .u64 u.set.x1) ∧ w'.cell? ⟨(w.heap.size + 1), 3, none⟩ = some (.int .u64 u.set.x2) ∧ w'.cell? ⟨(w.heap.size + 1), 4, none⟩ = some (.int .u64 u.set.x3) ∧ w'.cell? ⟨(w.heap.size + 1), 5, none⟩ = some (.int .i64 u.mn) ∧ w'.cell? ⟨(w.heap.size + 1), 6, none⟩ = some (.int .i64 u.mx) ∧ w'.cell? ⟨(w.heap.size + 1), 7, none⟩ = some (.slice b u.subs.length d) ∧ w'.cell? ⟨p5, 0, none⟩ = some (.int .i64 4) ∧ w'.cell? ⟨p5, 1, none⟩ = some (.int .u64 0) ∧ w'.cell? ⟨p5, 2, none⟩ = some (.int .u64 0) ∧ w'.cell? ⟨p5, 3, none⟩ = some (.int .u64 0) ∧ w'.cell? ⟨p5, 4, none⟩ = some (.int .u64 0) ∧ w'.cell? ⟨p5, 5, none⟩ = some (.int .i64 0) ∧ w'.cell? ⟨p5, 6, none⟩ = some (.int .i64 0) ∧ w'.cell? ⟨p5, 7, none⟩ = some (.slice (some ⟨s1, 0, none⟩) 2 2) ∧ w'.cell? ⟨p6, 0, none⟩ = some (.int .i64 3) ∧ w'.cell? ⟨p6, 1, none⟩ = some (.int .u64 0) ∧ w'.cell? ⟨p6, 2, none⟩ = some (.int .u64 0) ∧ w'.cell? ⟨p6, 3, none⟩ = some (.int .u64 0) ∧ w'.cell? ⟨p6, 4, none⟩ = some (.int .u64 0) ∧ w'.cell? ⟨p6, 5, none⟩ = some (.int .i64 0) ∧ w'.cell? ⟨p6, 6, none⟩ = some (.int .i64 0) ∧ w'.cell? ⟨p6, 7, none⟩ = some (.slice (some ⟨s2, 0, none⟩) 2 2) ∧ w'.cell? ⟨m7, 0, none⟩ = some (.int .u64 BO.x0) ∧ w'.cell? ⟨m7, 1, none⟩ = some (.int .u64 BO.x1) ∧ w'.cell? ⟨m7, 2, none⟩ = some (.int .u64 BO.x2) ∧ w'.cell? ⟨m7, 3, none⟩ = some (.int .u64 BO.x3) ∧ w'.cell? ⟨m8, 0, none⟩ = some (.int .u64 WT.x0) ∧ w'.cell? ⟨m8, 1, none⟩ = some (.int .u64 WT.x1) ∧ w'.cell? ⟨m8, 2, none⟩ = some (.int .u64 WT.x2) ∧ w'.cell? ⟨m8, 3, none⟩ = some (.int .u64 WT.x3))) (by kernel_rfl) ?_ (fun hHeld => ?_)
      · exact H5.out _ ((Keep.refl _ _).drew)
      refine wpAnyH_take (i := 0) (oi := { dst := some 52, op := Go.Op.load 27 (Go.Operand.tmp 5), type := 27, pos := "law.go:88", after := #[], guard := none }) (v := ?_) rfl (by kernel_rfl) (by kernel_rfl) (by kernel_rfl) (fun _ _ _ h => h) (Or.inl ⟨by rfl, ?_⟩) (by assumption) ?_
      rotate_left 1
      · (intro w hSw; (try dsimp only at hSw); go_simp; first | done | with_reducible rfl)
      try simp only [Act.put, List.setIfInBounds_toArray, List.set_cons_zero, List.set_cons_succ]
      refine wpAnyH_take (i := 2) (oi := { dst := some 54, op := Go.Op.load 24 (Go.Operand.tmp 7), type := 24, pos := "law.go:88", after := #[], guard := none }) (v := ?_) rfl (by kernel_rfl) (by kernel_rfl) (by kernel_rfl) (fun _ _ _ h => h) (Or.inl ⟨by rfl, ?_⟩) (by assumption) ?_
      rotate_left 1
      · (intro w hSw; (try dsimp only at hSw); go_simp; first | done | with_reducible rfl)
      try simp only [Act.put, List.setIfInBounds_toArray, List.set_cons_zero, List.set_cons_succ]
      refine wpAnyH_ready (rs := [1]) (by kernel_rfl) (by simp) ?_
      refine (AllReadyH.cons (o := { dst := some 53, op := Go.Op.call { callee := Go.Callee.value (Go.Operand.func 16), args := #[Go.Operand.tmp 52], argTypes := #[27] }, type := 24, pos := "law.go:88", after := #[{ on := 0, ground := Go.Ground.data }], guard := none }) rfl (fun K hK => ?_) AllReadyH.nil)
      go_simp
      go_at_call 16; refine (HX.out.2.2.1 _ (I13.out.1.trans (And.left hHeld))).mono ?_; rintro e w20 ⟨rfl, q⟩
      refine hK.out _ _ ?_ (fun hHeld' => ?_)
      · exact H5.out _ (Keep.trans (And.left hHeld) q)
      clear hK K hHeld
      have hHeld := hHeld'
      clear hHeld'
      try simp only [Act.put, List.setIfInBounds_toArray, List.set_cons_zero, List.set_cons_succ]
      refine wpAnyH_take (i := 3) (oi := { dst := some 55, op := Go.Op.binOp Go.BinOp.eql 24 (Go.Operand.tmp 53) (Go.Operand.tmp 54) 24, type := 4, pos := "law.go:88", after := #[{ on := 1, ground := Go.Ground.data }, { on := 2, ground := Go.Ground.data }], guard := none }) (v := ?_) rfl (by kernel_rfl) (by kernel_rfl) (by kernel_rfl) (fun _ _ _ h => h) (Or.inl ⟨by rfl, ?_⟩) (by assumption) ?_
      rotate_left 1
      · (intro w hSw; (try dsimp only at hSw); go_simp; first | done | with_reducible rfl)
      try simp only [Act.put, List.setIfInBounds_toArray, List.set_cons_zero, List.set_cons_succ]
      refine wpAnyH_take (i := 4) (oi := { dst := some 56, op := Go.Op.move (Go.Operand.tmp 55), type := 4, pos := "law.go:88", after := #[{ on := 3, ground := Go.Ground.data }, { on := 1, ground := Go.Ground.chain }], guard := none }) (v := ?_) rfl (by kernel_rfl) (by kernel_rfl) (by kernel_rfl) (fun _ _ _ h => h) (Or.inl ⟨by rfl, ?_⟩) (by assumption) ?_
      rotate_left 1
      · (intro w hSw; (try dsimp only at hSw); go_simp; first | done | with_reducible rfl)
      try simp only [Act.put, List.setIfInBounds_toArray, List.set_cons_zero, List.set_cons_succ]
      refine wpAnyH_take (i := 5) (oi := { dst := some 57, op := Go.Op.load 27 (Go.Operand.tmp 6), type := 27, pos := "law.go:88", after := #[{ on := 4, ground := Go.Ground.guard }], guard := some (4, true) }) (v := ?_) rfl (by kernel_rfl) (by kernel_rfl) (by kernel_rfl) (fun _ _ _ h => h) (Or.inl ⟨by rfl, ?_⟩) (by assumption) ?_
      rotate_left 1
      · (intro w hSw; (try dsimp only at hSw); go_simp; first | done | with_reducible rfl)
      try simp only [Act.put, List.setIfInBounds_toArray, List.set_cons_zero, List.set_cons_succ]
      refine wpAnyH_take (i := 7) (oi := { dst := some 59, op := Go.Op.load 24 (Go.Operand.tmp 8), type := 24, pos := "law.go:88", after := #[{ on := 4, ground := Go.Ground.guard }], guard := some (4, true) }) (v := ?_) rfl (by kernel_rfl) (by kernel_rfl) (by kernel_rfl) (fun _ _ _ h => h) (Or.inl ⟨by rfl, ?_⟩) (by assumption) ?_
      rotate_left 1
      · (intro w hSw; (try dsimp only at hSw); go_simp; first | done | with_reducible rfl)
      try simp only [Act.put, List.setIfInBounds_toArray, List.set_cons_zero, List.set_cons_succ]
      refine wpAnyH_ready (rs := [6]) (by kernel_rfl) (by simp) ?_
      refine (AllReadyH.cons (o := { dst := some 58, op := Go.Op.call { callee := Go.Callee.value (Go.Operand.func 16), args := #[Go.Operand.tmp 57], argTypes := #[27] }, type := 24, pos := "law.go:88", after := #[{ on := 5, ground := Go.Ground.data }, { on := 4, ground := Go.Ground.chain }, { on := 4, ground := Go.Ground.guard }], guard := some (4, true) }) rfl (fun K hK => ?_) AllReadyH.nil)
      go_simp
      go_at_call 16; refine (HX.out.2.2.2.1 _ (I13.out.1.trans (And.left hHeld))).mono ?_; rintro e w20 ⟨rfl, q⟩
      refine hK.out _ _ ?_ (fun hHeld' => ?_)
      · exact H5.out _ (Keep.trans (And.left hHeld) q)
      clear hK K hHeld
      have hHeld := hHeld'
      clear hHeld'
      try simp only [Act.put, List.setIfInBounds_toArray, List.set_cons_zero, List.set_cons_succ]
      refine wpAnyH_take (i := 8) (oi := { dst := some 60, op := Go.Op.binOp Go.BinOp.eql 24 (Go.Operand.tmp 58) (Go.Operand.tmp 59) 24, type := 4, pos := "law.go:88", after := #[{ on := 6, ground := Go.Ground.data }, { on := 7, ground := Go.Ground.data }, { on := 4, ground := Go.Ground.guard }], guard := some (4, true) }) (v := ?_) rfl (by kernel_rfl) (by kernel_rfl) (by kernel_rfl) (fun _ _ _ h => h) (Or.inl ⟨by rfl, ?_⟩) (by assumption) ?_
      rotate_left 1
      · (intro w hSw; (try dsimp only at hSw); go_simp; first | done | with_reducible rfl)
      try simp only [Act.put, List.setIfInBounds_toArray, List.set_cons_zero, List.set_cons_succ]
      refine wpAnyH_take (i := 9) (oi := { dst := some 61, op := Go.Op.pick (Go.Operand.tmp 56) (Go.Operand.tmp 60) (Go.Operand.const (Go.Value.bool false)), type := 4, pos := "law.go:88", after := #[{ on := 4, ground := Go.Ground.data }, { on := 8, ground := Go.Ground.data }], guard := none }) (v := ?_) rfl (by kernel_rfl) (by kernel_rfl) (by kernel_rfl) (fun _ _ _ h => h) (Or.inl ⟨by rfl, ?_⟩) (by assumption) ?_
      rotate_left 1
      · (intro w hSw; (try dsimp only at hSw); go_simp; first | done | with_reducible rfl)
      try simp only [Act.put, List.setIfInBounds_toArray, List.set_cons_zero, List.set_cons_succ]
      refine wpAnyH_take (i := 10) (oi := { dst := some 62, op := Go.Op.move (Go.Operand.tmp 61), type := 4, pos := "law.go:88", after := #[{ on := 9, ground := Go.Ground.data }, { on := 6, ground := Go.Ground.chain }], guard := none }) (v := ?_) rfl (by kernel_rfl) (by kernel_rfl) (by kernel_rfl) (fun _ _ _ h => h) (Or.inl ⟨by rfl, ?_⟩) (by assumption) ?_
      rotate_left 1
      · (intro w hSw; (try dsimp only at hSw); go_simp; first | done | with_reducible rfl)
      try simp only [Act.put, List.setIfInBounds_toArray, List.set_cons_zero, List.set_cons_succ]
      refine wpAnyH_take (i := 11) (oi := { dst := some 63, op := Go.Op.load 27 (Go.Operand.tmp 5), type := 27, pos := "law.go:88", after := #[{ on := 10, ground := Go.Ground.guard }], guard := some (10, true) }) (v := ?_) rfl (by kernel_rfl) (by kernel_rfl) (by kernel_rfl) (fun _ _ _ h => h) (Or.inl ⟨by rfl, ?_⟩) (by assumption) ?_
      rotate_left 1
      · (intro w hSw; (try dsimp only at hSw); go_simp; first | done | with_reducible rfl)
      try simp only [Act.put, List.setIfInBounds_toArray, List.set_cons_zero, List.set_cons_succ]
      refine wpAnyH_take (i := 13) (oi := { dst := some 65, op := Go.Op.load 27 (Go.Operand.tmp 2), type := 27, pos := "law.go:88", after := #[{ on := 10, ground := Go.Ground.guard }], guard := some (10, true) }) (v := ?_) rfl (by kernel_rfl) (by kernel_rfl) (by kernel_rfl) (fun _ _ _ h => h) (Or.inl ⟨by rfl, ?_⟩) (by assumption) ?_
      rotate_left 1
      · (intro w hSw; (try dsimp only at hSw); go_simp; first | done | with_reducible rfl)
      try simp only [Act.put, List.setIfInBounds_toArray, List.set_cons_zero, List.set_cons_succ]
      refine wpAnyH_ready (rs := [12]) (by kernel_rfl) (by simp) ?_
      refine (AllReadyH.cons (o := { dst := some 64, op := Go.Op.call { callee := Go.Callee.value (Go.Operand.func 15), args := #[Go.Operand.tmp 63], argTypes := #[27] }, type := 4, pos := "law.go:88", after := #[{ on := 11, ground := Go.Ground.data }, { on := 10, ground := Go.Ground.chain }, { on := 10, ground := Go.Ground.guard }], guard := some (10, true) }) rfl (fun K hK => ?_) AllReadyH.nil)
      go_simp
      go_at_call 15; refine (HX.out.2.2.2.2.2.2.1 _ (I13.out.1.trans (And.left hHeld))).mono ?_; rintro e w20 ⟨rfl, q⟩
      refine hK.out _ _ ?_ (fun hHeld' => ?_)
      · exact H5.out _ (Keep.trans (And.left hHeld) q)
      clear hK K hHeld
      have hHeld := hHeld'
      clear hHeld'
      try simp only [Act.put, List.setIfInBounds_toArray, List.set_cons_zero, List.set_cons_succ]
      refine wpAnyH_ready (rs := [14]) (by kernel_rfl) (by simp) ?_
      refine (AllReadyH.cons (o := { dst := some 66, op := Go.Op.call { callee := Go.Callee.value (Go.Operand.func 15), args := #[Go.Operand.tmp 65], argTypes := #[27] }, type := 4, pos := "law.go:88", after := #[{ on := 13, ground := Go.Ground.data }, { on := 12, ground := Go.Ground.chain }, { on := 10, ground := Go.Ground.guard }], guard := some (10, true) }) rfl (fun K hK => ?_) AllReadyH.nil)
      go_simp
      go_at_call 15; refine (HX.out.2.2.2.2.1 _ (I13.out.1.trans (And.left hHeld))).mono ?_; rintro e w20 ⟨rfl, q⟩
      refine hK.out _ _ ?_ (fun hHeld' => ?_)
      · exact H5.out _ (Keep.trans (And.left hHeld) q)
      clear hK K hHeld
      have hHeld := hHeld'
      clear hHeld'
      try simp only [Act.put, List.setIfInBounds_toArray, List.set_cons_zero, List.set_cons_succ]
      refine wpAnyH_take (i := 15) (oi := { dst := some 67, op := Go.Op.move (Go.Operand.tmp 66), type := 4, pos := "law.go:88", after := #[{ on := 14, ground := Go.Ground.data }, { on := 14, ground := Go.Ground.chain }, { on := 10, ground := Go.Ground.guard }], guard := some (10, true) }) (v := ?_) rfl (by kernel_rfl) (by kernel_rfl) (by kernel_rfl) (fun _ _ _ h => h) (Or.inl ⟨by rfl, ?_⟩) (by assumption) ?_
      rotate_left 1
      · (intro w hSw; (try dsimp only at hSw); go_simp; first | done | with_reducible rfl)
      try simp only [Act.put, List.setIfInBounds_toArray, List.set_cons_zero, List.set_cons_succ]
      refine wpAnyH_take (i := 16) (oi := { dst := some 68, op := Go.Op.load 27 (Go.Operand.tmp 3), type := 27, pos := "law.go:88", after := #[{ on := 15, ground := Go.Ground.guard }], guard := some (15, false) }) (v := ?_) rfl (by kernel_rfl) (by kernel_rfl) (by kernel_rfl) (fun _ _ _ h => h) (Or.inl ⟨by rfl, ?_⟩) (by assumption) ?_
      rotate_left 1
      · (intro w hSw; (try dsimp only at hSw); go_simp; first | done | with_reducible rfl)
      try simp only [Act.put, List.setIfInBounds_toArray, List.set_cons_zero, List.set_cons_succ]
      refine wpAnyH_ready (rs := [17]) (by kernel_rfl) (by simp) ?_
      refine (AllReadyH.cons (o := { dst := some 69, op := Go.Op.call { callee := Go.Callee.value (Go.Operand.func 15), args := #[Go.Operand.tmp 68], argTypes := #[27] }, type := 4, pos := "law.go:88", after := #[{ on := 16, ground := Go.Ground.data }, { on := 15, ground := Go.Ground.chain }, { on := 15, ground := Go.Ground.guard }], guard := some (15, false) }) rfl (fun K hK => ?_) AllReadyH.nil)
      go_simp
      go_at_call 15; refine (HX.out.2.2.2.2.2.1 _ (I13.out.1.trans (And.left hHeld))).mono ?_; rintro e w20 ⟨rfl, q⟩
      refine hK.out _ _ ?_ (fun hHeld' => ?_)
      · exact H5.out _ (Keep.trans (And.left hHeld) q)
      clear hK K hHeld
      have hHeld := hHeld'
      clear hHeld'
      try simp only [Act.put, List.setIfInBounds_toArray, List.set_cons_zero, List.set_cons_succ]
      refine wpAnyH_take (i := 18) (oi := { dst := some 70, op := Go.Op.pick (Go.Operand.tmp 67) (Go.Operand.const (Go.Value.bool true)) (Go.Operand.tmp 69), type := 4, pos := "law.go:88", after := #[{ on := 15, ground := Go.Ground.data }, { on := 17, ground := Go.Ground.data }, { on := 10, ground := Go.Ground.guard }], guard := some (10, true) }) (v := ?_) rfl (by kernel_rfl) (by kernel_rfl) (by kernel_rfl) (fun _ _ _ h => h) (Or.inl ⟨by rfl, ?_⟩) (by assumption) ?_
      rotate_left 1
      · (intro w hSw; (try dsimp only at hSw); go_simp; first | done | with_reducible rfl)
      try simp only [Act.put, List.setIfInBounds_toArray, List.set_cons_zero, List.set_cons_succ]
      refine wpAnyH_take (i := 19) (oi := { dst := some 71, op := Go.Op.binOp Go.BinOp.eql 4 (Go.Operand.tmp 64) (Go.Operand.tmp 70) 4, type := 4, pos := "law.go:88", after := #[{ on := 12, ground := Go.Ground.data }, { on := 18, ground := Go.Ground.data }, { on := 10, ground := Go.Ground.guard }], guard := some (10, true) }) (v := .bool true) rfl (by kernel_rfl) (by kernel_rfl) (by kernel_rfl) (fun _ _ _ h => h) (Or.inl ⟨by rfl, ?_⟩) (by assumption) ?_
      · (intro w hSw; (try dsimp only at hSw); go_simp; first | done | simp | rfl)
      try simp only [Act.put, List.setIfInBounds_toArray, List.set_cons_zero, List.set_cons_succ]
      refine wpAnyH_take (i := 20) (oi := { dst := some 72, op := Go.Op.pick (Go.Operand.tmp 62) (Go.Operand.tmp 71) (Go.Operand.const (Go.Value.bool false)), type := 4, pos := "law.go:88", after := #[{ on := 10, ground := Go.Ground.data }, { on := 19, ground := Go.Ground.data }], guard := none }) (v := ?_) rfl (by kernel_rfl) (by kernel_rfl) (by kernel_rfl) (fun _ _ _ h => h) (Or.inl ⟨by rfl, ?_⟩) (by assumption) ?_
      rotate_left 1
      · (intro w hSw; (try dsimp only at hSw); go_simp; first | done | with_reducible rfl)
      try simp only [Act.put, List.setIfInBounds_toArray, List.set_cons_zero, List.set_cons_succ]
      refine wpAnyH_take (i := 21) (oi := { dst := some 73, op := Go.Op.move (Go.Operand.tmp 72), type := 4, pos := "law.go:88", after := #[{ on := 20, ground := Go.Ground.data }, { on := 17, ground := Go.Ground.chain }], guard := none }) (v := ?_) rfl (by kernel_rfl) (by kernel_rfl) (by kernel_rfl) (fun _ _ _ h => h) (Or.inl ⟨by rfl, ?_⟩) (by assumption) ?_
      rotate_left 1
      · (intro w hSw; (try dsimp only at hSw); go_simp; first | done | with_reducible rfl)
      try simp only [Act.put, List.setIfInBounds_toArray, List.set_cons_zero, List.set_cons_succ]
      refine wpAnyH_take (i := 22) (oi := { dst := some 74, op := Go.Op.load 27 (Go.Operand.tmp 6), type := 27, pos := "law.go:88", after := #[{ on := 21, ground := Go.Ground.guard }], guard := some (21, true) }) (v := ?_) rfl (by kernel_rfl) (by kernel_rfl) (by kernel_rfl) (fun _ _ _ h => h) (Or.inl ⟨by rfl, ?_⟩) (by assumption) ?_
      rotate_left 1
      · (intro w hSw; (try dsimp only at hSw); go_simp; first | done | with_reducible rfl)
      try simp only [Act.put, List.setIfInBounds_toArray, List.set_cons_zero, List.set_cons_succ]
      refine wpAnyH_take (i := 24) (oi := { dst := some 76, op := Go.Op.load 27 (Go.Operand.tmp 2), type := 27, pos := "law.go:88", after := #[{ on := 21, ground := Go.Ground.guard }], guard := some (21, true) }) (v := ?_) rfl (by kernel_rfl) (by kernel_rfl) (by kernel_rfl) (fun _ _ _ h => h) (Or.inl ⟨by rfl, ?_⟩) (by assumption) ?_
      rotate_left 1
      · (intro w hSw; (try dsimp only at hSw); go_simp; first | done | with_reducible rfl)
      try simp only [Act.put, List.setIfInBounds_toArray, List.set_cons_zero, List.set_cons_succ]
      refine wpAnyH_ready (rs := [23]) (by kernel_rfl) (by simp) ?_
      refine (AllReadyH.cons (o := { dst := some 75, op := Go.Op.call { callee := Go.Callee.value (Go.Operand.func 15), args := #[Go.Operand.tmp 74], argTypes := #[27] }, type := 4, pos := "law.go:88", after := #[{ on := 22, ground := Go.Ground.data }, { on := 21, ground := Go.Ground.chain }, { on := 21, ground := Go.Ground.guard }], guard := some (21, true) }) rfl (fun K hK => ?_) AllReadyH.nil)
      go_simp
      go_at_call 15; refine (HX.out.2.2.2.2.2.2.2.1 _ (I13.out.1.trans (And.left hHeld))).mono ?_; rintro e w20 ⟨rfl, q⟩
      refine hK.out _ _ ?_ (fun hHeld' => ?_)
      · exact H5.out _ (Keep.trans (And.left hHeld) q)
      clear hK K hHeld
      have hHeld := hHeld'
      clear hHeld'
      try simp only [Act.put, List.setIfInBounds_toArray, List.set_cons_zero, List.set_cons_succ]
      refine wpAnyH_ready (rs := [25]) (by kernel_rfl) (by simp) ?_
      refine (AllReadyH.cons (o := { dst := some 77, op := Go.Op.call { callee := Go.Callee.value (Go.Operand.func 15), args := #[Go.Operand.tmp 76], argTypes := #[27] }, type := 4, pos := "law.go:88", after := #[{ on := 24, ground := Go.Ground.data }, { on := 23, ground := Go.Ground.chain }, { on := 21, ground := Go.Ground.guard }], guard := some (21, true) }) rfl (fun K hK => ?_) AllReadyH.nil)
      go_simp
      go_at_call 15; refine (HX.out.2.2.2.2.1 _ (I13.out.1.trans (And.left hHeld))).mono ?_; rintro e w20 ⟨rfl, q⟩
      refine hK.out _ _ ?_ (fun hHeld' => ?_)
      · exact H5.out _ (Keep.trans (And.left hHeld) q)
      clear hK K hHeld
      have hHeld := hHeld'
      clear hHeld'
      try simp only [Act.put, List.setIfInBounds_toArray, List.set_cons_zero, List.set_cons_succ]
      refine wpAnyH_take (i := 26) (oi := { dst := some 78, op := Go.Op.move (Go.Operand.tmp 77), type := 4, pos := "law.go:88", after := #[{ on := 25, ground := Go.Ground.data }, { on := 25, ground := Go.Ground.chain }, { on := 21, ground := Go.Ground.guard }], guard := some (21, true) }) (v := ?_) rfl (by kernel_rfl) (by kernel_rfl) (by kernel_rfl) (fun _ _ _ h => h) (Or.inl ⟨by rfl, ?_⟩) (by assumption) ?_
      rotate_left 1
      · (intro w hSw; (try dsimp only at hSw); go_simp; first | done | with_reducible rfl)
      try simp only [Act.put, List.setIfInBounds_toArray, List.set_cons_zero, List.set_cons_succ]
      refine wpAnyH_take (i := 27) (oi := { dst := some 79, op := Go.Op.load 27 (Go.Operand.tmp 3), type := 27, pos := "law.go:88", after := #[{ on := 26, ground := Go.Ground.guard }], guard := some (26, true) }) (v := undef) rfl (by kernel_rfl) (by kernel_rfl) (by kernel_rfl) (fun _ _ _ h => h) (Or.inr ⟨by rfl, rfl⟩) (by assumption) ?_
      try simp only [Act.put, List.setIfInBounds_toArray, List.set_cons_zero, List.set_cons_succ]
      refine wpAnyH_take (i := 28) (oi := { dst := some 80, op := Go.Op.call { callee := Go.Callee.value (Go.Operand.func 15), args := #[Go.Operand.tmp 79], argTypes := #[27] }, type := 4, pos := "law.go:88", after := #[{ on := 27, ground := Go.Ground.data }, { on := 26, ground := Go.Ground.chain }, { on := 26, ground := Go.Ground.guard }], guard := some (26, true) }) (v := undef) rfl (by kernel_rfl) (by kernel_rfl) (by kernel_rfl) (fun _ _ _ h => h) (Or.inr ⟨by rfl, rfl⟩) (by assumption) ?_
      try simp only [Act.put, List.setIfInBounds_toArray, List.set_cons_zero, List.set_cons_succ]
      refine wpAnyH_take (i := 29) (oi := { dst := some 81, op := Go.Op.pick (Go.Operand.tmp 78) (Go.Operand.tmp 80) (Go.Operand.const (Go.Value.bool false)), type := 4, pos := "law.go:88", after := #[{ on := 26, ground := Go.Ground.data }, { on := 28, ground := Go.Ground.data }, { on := 21, ground := Go.Ground.guard }], guard := some (21, true) }) (v := ?_) rfl (by kernel_rfl) (by kernel_rfl) (by kernel_rfl) (fun _ _ _ h => h) (Or.inl ⟨by rfl, ?_⟩) (by assumption) ?_
      rotate_left 1
      · (intro w hSw; (try dsimp only at hSw); go_simp; first | done | with_reducible rfl)
      try simp only [Act.put, List.setIfInBounds_toArray, List.set_cons_zero, List.set_cons_succ]
      refine wpAnyH_take (i := 30) (oi := { dst := some 82, op := Go.Op.binOp Go.BinOp.eql 4 (Go.Operand.tmp 75) (Go.Operand.tmp 81) 4, type := 4, pos := "law.go:88", after := #[{ on := 23, ground := Go.Ground.data }, { on := 29, ground := Go.Ground.data }, { on := 21, ground := Go.Ground.guard }], guard := some (21, true) }) (v := .bool true) rfl (by kernel_rfl) (by kernel_rfl) (by kernel_rfl) (fun _ _ _ h => h) (Or.inl ⟨by rfl, ?_⟩) (by assumption) ?_
      · (intro w hSw; (try dsimp only at hSw); go_simp; first | done | simp | rfl)
      try simp only [Act.put, List.setIfInBounds_toArray, List.set_cons_zero, List.set_cons_succ]
      refine wpAnyH_take (i := 31) (oi := { dst := some 83, op := Go.Op.pick (Go.Operand.tmp 73) (Go.Operand.tmp 82) (Go.Operand.const (Go.Value.bool false)), type := 4, pos := "law.go:88", after := #[{ on := 21, ground := Go.Ground.data }, { on := 30, ground := Go.Ground.data }], guard := none }) (v := ?_) rfl (by kernel_rfl) (by kernel_rfl) (by kernel_rfl) (fun _ _ _ h => h) (Or.inl ⟨by rfl, ?_⟩) (by assumption) ?_
      rotate_left 1
      · (intro w hSw; (try dsimp only at hSw); go_simp; first | done | with_reducible rfl)
      try simp only [Act.put, List.setIfInBounds_toArray, List.set_cons_zero, List.set_cons_succ]
      refine wpAnyH_take (i := 32) (oi := { dst := some 84, op := Go.Op.move (Go.Operand.tmp 83), type := 4, pos := "law.go:88", after := #[{ on := 31, ground := Go.Ground.data }, { on := 28, ground := Go.Ground.chain }], guard := none }) (v := ?_) rfl (by kernel_rfl) (by kernel_rfl) (by kernel_rfl) (fun _ _ _ h => h) (Or.inl ⟨by rfl, ?_⟩) (by assumption) ?_
      rotate_left 1
      · (intro w hSw; (try dsimp only at hSw); go_simp; first | done | with_reducible rfl)
      try simp only [Act.put, List.setIfInBounds_toArray, List.set_cons_zero, List.set_cons_succ]
      refine wpAnyH_take (i := 33) (oi := { dst := some 85, op := Go.Op.load 27 (Go.Operand.tmp 5), type := 27, pos := "law.go:88", after := #[{ on := 32, ground := Go.Ground.guard }], guard := some (32, true) }) (v := ?_) rfl (by kernel_rfl) (by kernel_rfl) (by kernel_rfl) (fun _ _ _ h => h) (Or.inl ⟨by rfl, ?_⟩) (by assumption) ?_
      rotate_left 1
      · (intro w hSw; (try dsimp only at hSw); go_simp; first | done | with_reducible rfl)
      try simp only [Act.put, List.setIfInBounds_toArray, List.set_cons_zero, List.set_cons_succ]
      refine wpAnyH_take (i := 35) (oi := { dst := some 87, op := Go.Op.load 27 (Go.Operand.tmp 6), type := 27, pos := "law.go:88", after := #[{ on := 32, ground := Go.Ground.guard }], guard := some (32, true) }) (v := ?_) rfl (by kernel_rfl) (by kernel_rfl) (by kernel_rfl) (fun _ _ _ h => h) (Or.inl ⟨by rfl, ?_⟩) (by assumption) ?_
      rotate_left 1
      · (intro w hSw; (try dsimp only at hSw); go_simp; first | done | with_reducible rfl)
      try simp only [Act.put, List.setIfInBounds_toArray, List.set_cons_zero, List.set_cons_succ]
      refine wpAnyH_ready (rs := [34]) (by kernel_rfl) (by simp) ?_
      refine (AllReadyH.cons (o := { dst := some 86, op := Go.Op.call { callee := Go.Callee.value (Go.Operand.func 14), args := #[Go.Operand.tmp 85], argTypes := #[27] }, type := 3, pos := "law.go:88", after := #[{ on := 33, ground := Go.Ground.data }, { on := 32, ground := Go.Ground.chain }, { on := 32, ground := Go.Ground.guard }], guard := some (32, true) }) rfl (fun K hK => ?_) AllReadyH.nil)
      go_simp
      go_at_call 14; refine (HX.out.2.2.2.2.2.2.2.2.2.2.1 _ (I13.out.1.trans (And.left hHeld))).mono ?_; rintro e w20 ⟨rfl, q⟩
      refine hK.out _ _ ?_ (fun hHeld' => ?_)
      · exact H5.out _ (Keep.trans (And.left hHeld) q)
      clear hK K hHeld
      have hHeld := hHeld'
      clear hHeld'
      try simp only [Act.put, List.setIfInBounds_toArray, List.set_cons_zero, List.set_cons_succ]
      refine wpAnyH_ready (rs := [36]) (by kernel_rfl) (by simp) ?_
      refine (AllReadyH.cons (o := { dst := some 88, op := Go.Op.call { callee := Go.Callee.value (Go.Operand.func 14), args := #[Go.Operand.tmp 87], argTypes := #[27] }, type := 3, pos := "law.go:88", after := #[{ on := 35, ground := Go.Ground.data }, { on := 34, ground := Go.Ground.chain }, { on := 32, ground := Go.Ground.guard }], guard := some (32, true) }) rfl (fun K hK => ?_) AllReadyH.nil)
      go_simp
      go_at_call 14; refine (HX.out.2.2.2.2.2.2.2.2.2.2.2 _ (I13.out.1.trans (And.left hHeld))).mono ?_; rintro e w20 ⟨rfl, q⟩
      refine hK.out _ _ ?_ (fun hHeld' => ?_)
      · exact H5.out _ (Keep.trans (And.left hHeld) q)
      clear hK K hHeld
      have hHeld := hHeld'
      clear hHeld'
      try simp only [Act.put, List.setIfInBounds_toArray, List.set_cons_zero, List.set_cons_succ]
      refine wpAnyH_take (i := 37) (oi := { dst := some 89, op := Go.Op.binOp Go.BinOp.eql 3 (Go.Operand.tmp 86) (Go.Operand.tmp 88) 3, type := 4, pos := "law.go:88", after := #[{ on := 34, ground := Go.Ground.data }, { on := 36, ground := Go.Ground.data }, { on := 32, ground := Go.Ground.guard }], guard := some (32, true) }) (v := ?_) rfl (by kernel_rfl) (by kernel_rfl) (by kernel_rfl) (fun _ _ _ h => h) (Or.inl ⟨by rfl, ?_⟩) (by assumption) ?_
      rotate_left 1
      · (intro w hSw; (try dsimp only at hSw); go_simp; first | done | with_reducible rfl)
      try simp only [Act.put, List.setIfInBounds_toArray, List.set_cons_zero, List.set_cons_succ]
      refine wpAnyH_take (i := 38) (oi := { dst := some 90, op := Go.Op.pick (Go.Operand.tmp 84) (Go.Operand.tmp 89) (Go.Operand.const (Go.Value.bool false)), type := 4, pos := "law.go:88", after := #[{ on := 32, ground := Go.Ground.data }, { on := 37, ground := Go.Ground.data }], guard := none }) (v := ?_) rfl (by kernel_rfl) (by kernel_rfl) (by kernel_rfl) (fun _ _ _ h => h) (Or.inl ⟨by rfl, ?_⟩) (by assumption) ?_
      rotate_left 1
      · (intro w hSw; (try dsimp only at hSw); go_simp; first | done | with_reducible rfl)
      try simp only [Act.put, List.setIfInBounds_toArray, List.set_cons_zero, List.set_cons_succ]
      refine wpAnyH_take (i := 39) (oi := { dst := some 91, op := Go.Op.move (Go.Operand.tmp 90), type := 4, pos := "law.go:88", after := #[{ on := 38, ground := Go.Ground.data }, { on := 36, ground := Go.Ground.chain }], guard := none }) (v := ?_) rfl (by kernel_rfl) (by kernel_rfl) (by kernel_rfl) (fun _ _ _ h => h) (Or.inl ⟨by rfl, ?_⟩) (by assumption) ?_
      rotate_left 1
      · (intro w hSw; (try dsimp only at hSw); go_simp; first | done | with_reducible rfl)
      try simp only [Act.put, List.setIfInBounds_toArray, List.set_cons_zero, List.set_cons_succ]
      refine wpAnyH_take (i := 40) (oi := { dst := some 92, op := Go.Op.load 24 (Go.Operand.tmp 7), type := 24, pos := "law.go:88", after := #[{ on := 39, ground := Go.Ground.guard }], guard := some (39, true) }) (v := ?_) rfl (by kernel_rfl) (by kernel_rfl) (by kernel_rfl) (fun _ _ _ h => h) (Or.inl ⟨by rfl, ?_⟩) (by assumption) ?_
      rotate_left 1
      · (intro w hSw; (try dsimp only at hSw); go_simp; first | done | with_reducible rfl)
      try simp only [Act.put, List.setIfInBounds_toArray, List.set_cons_zero, List.set_cons_succ]
      refine wpAnyH_take (i := 43) (oi := { dst := some 95, op := Go.Op.load 24 (Go.Operand.tmp 8), type := 24, pos := "law.go:88", after := #[{ on := 39, ground := Go.Ground.guard }], guard := some (39, true) }) (v := ?_) rfl (by kernel_rfl) (by kernel_rfl) (by kernel_rfl) (fun _ _ _ h => h) (Or.inl ⟨by rfl, ?_⟩) (by assumption) ?_
      rotate_left 1
      · (intro w hSw; (try dsimp only at hSw); go_simp; first | done | with_reducible rfl)
      try simp only [Act.put, List.setIfInBounds_toArray, List.set_cons_zero, List.set_cons_succ]
      refine wpAnyH_ready (rs := [41]) (by kernel_rfl) (by simp) ?_
      refine (AllReadyH.cons (o := { dst := some 93, op := Go.Op.call { callee := Go.Callee.value (Go.Operand.func 28), args := #[Go.Operand.tmp 92], argTypes := #[24] }, type := 41, pos := "law.go:88", after := #[{ on := 40, ground := Go.Ground.data }, { on := 39, ground := Go.Ground.chain }, { on := 39, ground := Go.Ground.guard }], guard := some (39, true) }) rfl (fun K hK => ?_) AllReadyH.nil)
      go_simp
      go_at_call 28; refine (HLS.out.1 _).mono ?_; rintro e w20 ⟨aL, cL, rfl, q⟩
      refine hK.out _ _ ?_ (fun hHeld' => ?_)
      · exact H5.out _ (Keep.trans (And.left hHeld) q)
      clear hK K hHeld
      have hHeld := hHeld'
      clear hHeld'
      try simp only [Act.put, List.setIfInBounds_toArray, List.set_cons_zero, List.set_cons_succ]
      refine wpAnyH_ready (rs := [42, 44]) (by kernel_rfl) (by simp) ?_
      refine (AllReadyH.cons (o := { dst := some 94, op := Go.Op.call { callee := Go.Callee.builtin Go.Builtin.len, args := #[Go.Operand.tmp 93], argTypes := #[41] }, type := 3, pos := "law.go:88", after := #[{ on := 41, ground := Go.Ground.data }, { on := 39, ground := Go.Ground.guard }], guard := some (39, true) }) rfl (fun K hK => ?_) (AllReadyH.cons (o := { dst := some 96, op := Go.Op.call { callee := Go.Callee.value (Go.Operand.func 28), args := #[Go.Operand.tmp 95], argTypes := #[24] }, type := 41, pos := "law.go:88", after := #[{ on := 43, ground := Go.Ground.data }, { on := 41, ground := Go.Ground.chain }, { on := 39, ground := Go.Ground.guard }], guard := some (39, true) }) rfl (fun K hK => ?_) AllReadyH.nil))
      go_simp
      refine hK.out _ _ ?_ (fun hHeld' => ?_)
      · exact hHeld
      clear hK K hHeld
      have hHeld := hHeld'
      clear hHeld'
      try simp only [Act.put, List.setIfInBounds_toArray, List.set_cons_zero, List.set_cons_succ]
      refine wpAnyH_ready (rs := [44]) (by kernel_rfl) (by simp) ?_
      refine (AllReadyH.cons (o := { dst := some 96, op := Go.Op.call { callee := Go.Callee.value (Go.Operand.func 28), args := #[Go.Operand.tmp 95], argTypes := #[24] }, type := 41, pos := "law.go:88", after := #[{ on := 43, ground := Go.Ground.data }, { on := 41, ground := Go.Ground.chain }, { on := 39, ground := Go.Ground.guard }], guard := some (39, true) }) rfl (fun K hK => ?_) AllReadyH.nil)
      go_simp
      go_at_call 28; refine (HLS.out.2 _).mono ?_; rintro e w20 ⟨aL, cL, rfl, q⟩
      refine hK.out _ _ ?_ (fun hHeld' => ?_)
      · exact H5.out _ (Keep.trans (And.left hHeld) q)
      clear hK K hHeld
      have hHeld := hHeld'
      clear hHeld'
      try simp only [Act.put, List.setIfInBounds_toArray, List.set_cons_zero, List.set_cons_succ]
      refine wpAnyH_ready (rs := [45]) (by kernel_rfl) (by simp) ?_
      refine (AllReadyH.cons (o := { dst := some 97, op := Go.Op.call { callee := Go.Callee.builtin Go.Builtin.len, args := #[Go.Operand.tmp 96], argTypes := #[41] }, type := 3, pos := "law.go:88", after := #[{ on := 44, ground := Go.Ground.data }, { on := 39, ground := Go.Ground.guard }], guard := some (39, true) }) rfl (fun K hK => ?_) AllReadyH.nil)
      go_simp
      refine hK.out _ _ ?_ (fun hHeld' => ?_)
      · exact hHeld
      clear hK K hHeld
      have hHeld := hHeld'
      clear hHeld'
      try simp only [Act.put, List.setIfInBounds_toArray, List.set_cons_zero, List.set_cons_succ]
      refine wpAnyH_take (i := 46) (oi := { dst := some 98, op := Go.Op.binOp Go.BinOp.geq 3 (Go.Operand.tmp 94) (Go.Operand.tmp 97) 3, type := 4, pos := "law.go:88", after := #[{ on := 42, ground := Go.Ground.data }, { on := 45, ground := Go.Ground.data }, { on := 39, ground := Go.Ground.guard }], guard := some (39, true) }) (v := .bool true) rfl (by kernel_rfl) (by kernel_rfl) (by kernel_rfl) (fun _ _ _ h => h) (Or.inl ⟨by rfl, ?_⟩) (by assumption) ?_
      · (intro w hSw; (try dsimp only at hSw); go_simp; first | done | simp [hleI] | (simp; omega))
      try simp only [Act.put, List.setIfInBounds_toArray, List.set_cons_zero, List.set_cons_succ]
      refine wpAnyH_take (i := 47) (oi := { dst := some 99, op := Go.Op.pick (Go.Operand.tmp 91) (Go.Operand.tmp 98) (Go.Operand.const (Go.Value.bool false)), type := 4, pos := "law.go:88", after := #[{ on := 39, ground := Go.Ground.data }, { on := 46, ground := Go.Ground.data }], guard := none }) (v := ?_) rfl (by kernel_rfl) (by kernel_rfl) (by kernel_rfl) (fun _ _ _ h => h) (Or.inl ⟨by rfl, ?_⟩) (by assumption) ?_
      rotate_left 1
      · (intro w hSw; (try dsimp only at hSw); go_simp; first | done | with_reducible rfl)
      try simp only [Act.put, List.setIfInBounds_toArray, List.set_cons_zero, List.set_cons_succ]
      refine wpAnyH_take (i := 48) (oi := { dst := some 4, op := Go.Op.assign (Go.Operand.tmp 99), type := 4, pos := "law.go:88", after := #[{ on := 47, ground := Go.Ground.data }, { on := 44, ground := Go.Ground.chain }, { on := 0, ground := Go.Ground.phase }, { on := 1, ground := Go.Ground.phase }, { on := 2, ground := Go.Ground.phase }, { on := 3, ground := Go.Ground.phase }, { on := 4, ground := Go.Ground.phase }, { on := 5, ground := Go.Ground.phase }, { on := 6, ground := Go.Ground.phase }, { on := 7, ground := Go.Ground.phase }, { on := 8, ground := Go.Ground.phase }, { on := 9, ground := Go.Ground.phase }, { on := 10, ground := Go.Ground.phase }, { on := 11, ground := Go.Ground.phase }, { on := 12, ground := Go.Ground.phase }, { on := 13, ground := Go.Ground.phase }, { on := 14, ground := Go.Ground.phase }, { on := 15, ground := Go.Ground.phase }, { on := 16, ground := Go.Ground.phase }, { on := 17, ground := Go.Ground.phase }, { on := 18, ground := Go.Ground.phase }, { on := 19, ground := Go.Ground.phase }, { on := 20, ground := Go.Ground.phase }, { on := 21, ground := Go.Ground.phase }, { on := 22, ground := Go.Ground.phase }, { on := 23, ground := Go.Ground.phase }, { on := 24, ground := Go.Ground.phase }, { on := 25, ground := Go.Ground.phase }, { on := 26, ground := Go.Ground.phase }, { on := 27, ground := Go.Ground.phase }, { on := 28, ground := Go.Ground.phase }, { on := 29, ground := Go.Ground.phase }, { on := 30, ground := Go.Ground.phase }, { on := 31, ground := Go.Ground.phase }, { on := 32, ground := Go.Ground.phase }, { on := 33, ground := Go.Ground.phase }, { on := 34, ground := Go.Ground.phase }, { on := 35, ground := Go.Ground.phase }, { on := 36, ground := Go.Ground.phase }, { on := 37, ground := Go.Ground.phase }, { on := 38, ground := Go.Ground.phase }, { on := 39, ground := Go.Ground.phase }, { on := 40, ground := Go.Ground.phase }, { on := 41, ground := Go.Ground.phase }, { on := 42, ground := Go.Ground.phase }, { on := 43, ground := Go.Ground.phase }, { on := 44, ground := Go.Ground.phase }, { on := 45, ground := Go.Ground.phase }, { on := 46, ground := Go.Ground.phase }, { on := 47, ground := Go.Ground.phase }], guard := none }) (v := ?_) rfl (by kernel_rfl) (by kernel_rfl) (by kernel_rfl) (fun _ _ _ h => h) (Or.inl ⟨by rfl, ?_⟩) (by assumption) ?_
      rotate_left 1
      · (intro w hSw; (try dsimp only at hSw); go_simp; first | done | with_reducible rfl)
      try simp only [Act.put, List.setIfInBounds_toArray, List.set_cons_zero, List.set_cons_succ]
      refine wpAnyH_done (by kernel_rfl) ?_ _
      refine NoPanic.normal ?_
      rotate_left 1
      go_simp
      go_at_call 28; refine (HLS.out.2 _).mono ?_; rintro e w20 ⟨aL, cL, rfl, q⟩
      refine hK.out _ _ ?_ (fun hHeld' => ?_)
      · exact H5.out _ (Keep.trans (And.left hHeld) q)
      clear hK K hHeld
      have hHeld := hHeld'
      clear hHeld'
      try simp only [Act.put, List.setIfInBounds_toArray, List.set_cons_zero, List.set_cons_succ]
      refine wpAnyH_ready (rs := [42, 45]) (by kernel_rfl) (by simp) ?_
      refine (AllReadyH.cons (o := { dst := some 94, op := Go.Op.call { callee := Go.Callee.builtin Go.Builtin.len, args := #[Go.Operand.tmp 93], argTypes := #[41] }, type := 3, pos := "law.go:88", after := #[{ on := 41, ground := Go.Ground.data }, { on := 39, ground := Go.Ground.guard }], guard := some (39, true) }) rfl (fun K hK => ?_) (AllReadyH.cons (o := { dst := some 97, op := Go.Op.call { callee := Go.Callee.builtin Go.Builtin.len, args := #[Go.Operand.tmp 96], argTypes := #[41] }, type := 3, pos := "law.go:88", after := #[{ on := 44, ground := Go.Ground.data }, { on := 39, ground := Go.Ground.guard }], guard := some (39, true) }) rfl (fun K hK => ?_) AllReadyH.nil))
      go_simp
      refine hK.out _ _ ?_ (fun hHeld' => ?_)
      · exact hHeld
      clear hK K hHeld
      have hHeld := hHeld'
      clear hHeld'
      try simp only [Act.put, List.setIfInBounds_toArray, List.set_cons_zero, List.set_cons_succ]
      refine wpAnyH_ready (rs := [45]) (by kernel_rfl) (by simp) ?_
      refine (AllReadyH.cons (o := { dst := some 97, op := Go.Op.call { callee := Go.Callee.builtin Go.Builtin.len, args := #[Go.Operand.tmp 96], argTypes := #[41] }, type := 3, pos := "law.go:88", after := #[{ on := 44, ground := Go.Ground.data }, { on := 39, ground := Go.Ground.guard }], guard := some (39, true) }) rfl (fun K hK => ?_) AllReadyH.nil)
      go_simp
      refine hK.out _ _ ?_ (fun hHeld' => ?_)
      · exact hHeld
      clear hK K hHeld
      have hHeld := hHeld'
      clear hHeld'
      try simp only [Act.put, List.setIfInBounds_toArray, List.set_cons_zero, List.set_cons_succ]
      refine wpAnyH_take (i := 46) (oi := { dst := some 98, op := Go.Op.binOp Go.BinOp.geq 3 (Go.Operand.tmp 94) (Go.Operand.tmp 97) 3, type := 4, pos := "law.go:88", after := #[{ on := 42, ground := Go.Ground.data }, { on := 45, ground := Go.Ground.data }, { on := 39, ground := Go.Ground.guard }], guard := some (39, true) }) (v := .bool true) rfl (by kernel_rfl) (by kernel_rfl) (by kernel_rfl) (fun _ _ _ h => h) (Or.inl ⟨by rfl, ?_⟩) (by assumption) ?_
      · (intro w hSw; (try dsimp only at hSw); go_simp; first | done | simp [hleI] | (simp; omega))
      try simp only [Act.put, List.setIfInBounds_toArray, List.set_cons_zero, List.set_cons_succ]
      refine wpAnyH_take (i := 47) (oi := { dst := some 99, op := Go.Op.pick (Go.Operand.tmp 91) (Go.Operand.tmp 98) (Go.Operand.const (Go.Value.bool false)), type := 4, pos := "law.go:88", after := #[{ on := 39, ground := Go.Ground.data }, { on := 46, ground := Go.Ground.data }], guard := none }) (v := ?_) rfl (by kernel_rfl) (by kernel_rfl) (by kernel_rfl) (fun _ _ _ h => h) (Or.inl ⟨by rfl, ?_⟩) (by assumption) ?_
      rotate_left 1
      · (intro w hSw; (try dsimp only at hSw); go_simp; first | done | with_reducible rfl)
      try simp only [Act.put, List.setIfInBounds_toArray, List.set_cons_zero, List.set_cons_succ]
      refine wpAnyH_take (i := 48) (oi := { dst := some 4, op := Go.Op.assign (Go.Operand.tmp 99), type := 4, pos := "law.go:88", after := #[{ on := 47, ground := Go.Ground.data }, { on := 44, ground := Go.Ground.chain }, { on := 0, ground := Go.Ground.phase }, { on := 1, ground := Go.Ground.phase }, { on := 2, ground := Go.Ground.phase }, { on := 3, ground := Go.Ground.phase }, { on := 4, ground := Go.Ground.phase }, { on := 5, ground := Go.Ground.phase }, { on := 6, ground := Go.Ground.phase }, { on := 7, ground := Go.Ground.phase }, { on := 8, ground := Go.Ground.phase }, { on := 9, ground := Go.Ground.phase }, { on := 10, ground := Go.Ground.phase }, { on := 11, ground := Go.Ground.phase }, { on := 12, ground := Go.Ground.phase }, { on := 13, ground := Go.Ground.phase }, { on := 14, ground := Go.Ground.phase }, { on := 15, ground := Go.Ground.phase }, { on := 16, ground := Go.Ground.phase }, { on := 17, ground := Go.Ground.phase }, { on := 18, ground := Go.Ground.phase }, { on := 19, ground := Go.Ground.phase }, { on := 20, ground := Go.Ground.phase }, { on := 21, ground := Go.Ground.phase }, { on := 22, ground := Go.Ground.phase }, { on := 23, ground := Go.Ground.phase }, { on := 24, ground := Go.Ground.phase }, { on := 25, ground := Go.Ground.phase }, { on := 26, ground := Go.Ground.phase }, { on := 27, ground := Go.Ground.phase }, { on := 28, ground := Go.Ground.phase }, { on := 29, ground := Go.Ground.phase }, { on := 30, ground := Go.Ground.phase }, { on := 31, ground := Go.Ground.phase }, { on := 32, ground := Go.Ground.phase }, { on := 33, ground := Go.Ground.phase }, { on := 34, ground := Go.Ground.phase }, { on := 35, ground := Go.Ground.phase }, { on := 36, ground := Go.Ground.phase }, { on := 37, ground := Go.Ground.phase }, { on := 38, ground := Go.Ground.phase }, { on := 39, ground := Go.Ground.phase }, { on := 40, ground := Go.Ground.phase }, { on := 41, ground := Go.Ground.phase }, { on := 42, ground := Go.Ground.phase }, { on := 43, ground := Go.Ground.phase }, { on := 44, ground := Go.Ground.phase }, { on := 45, ground := Go.Ground.phase }, { on := 46, ground := Go.Ground.phase }, { on := 47, ground := Go.Ground.phase }], guard := none }) (v := ?_) rfl (by kernel_rfl) (by kernel_rfl) (by kernel_rfl) (fun _ _ _ h => h) (Or.inl ⟨by rfl, ?_⟩) (by assumption) ?_
      rotate_left 1
      · (intro w hSw; (try dsimp only at hSw); go_simp; first | done | with_reducible rfl)
      try simp only [Act.put, List.setIfInBounds_toArray, List.set_cons_zero, List.set_cons_succ]
      refine wpAnyH_done (by kernel_rfl) ?_ _
      refine NoPanic.normal ?_
      rotate_left 1
      go_simp
      refine hK.out _ _ ?_ (fun hHeld' => ?_)
      · exact hHeld
      clear hK K hHeld
      have hHeld := hHeld'
      clear hHeld'
      try simp only [Act.put, List.setIfInBounds_toArray, List.set_cons_zero, List.set_cons_succ]
      refine wpAnyH_ready (rs := [42]) (by kernel_rfl) (by simp) ?_
      refine (AllReadyH.cons (o := { dst := some 94, op := Go.Op.call { callee := Go.Callee.builtin Go.Builtin.len, args := #[Go.Operand.tmp 93], argTypes := #[41] }, type := 3, pos := "law.go:88", after := #[{ on := 41, ground := Go.Ground.data }, { on := 39, ground := Go.Ground.guard }], guard := some (39, true) }) rfl (fun K hK => ?_) AllReadyH.nil)
      go_simp
      refine hK.out _ _ ?_ (fun hHeld' => ?_)
      · exact hHeld
      clear hK K hHeld
      have hHeld := hHeld'
      clear hHeld'
      try simp only [Act.put, List.setIfInBounds_toArray, List.set_cons_zero, List.set_cons_succ]
      refine wpAnyH_take (i := 46) (oi := { dst := some 98, op := Go.Op.binOp Go.BinOp.geq 3 (Go.Operand.tmp 94) (Go.Operand.tmp 97) 3, type := 4, pos := "law.go:88", after := #[{ on := 42, ground := Go.Ground.data }, { on := 45, ground := Go.Ground.data }, { on := 39, ground := Go.Ground.guard }], guard := some (39, true) }) (v := .bool true) rfl (by kernel_rfl) (by kernel_rfl) (by kernel_rfl) (fun _ _ _ h => h) (Or.inl ⟨by rfl, ?_⟩) (by assumption) ?_
      · (intro w hSw; (try dsimp only at hSw); go_simp; first | done | simp [hleI] | (simp; omega))
      try simp only [Act.put, List.setIfInBounds_toArray, List.set_cons_zero, List.set_cons_succ]
      refine wpAnyH_take (i := 47) (oi := { dst := some 99, op := Go.Op.pick (Go.Operand.tmp 91) (Go.Operand.tmp 98) (Go.Operand.const (Go.Value.bool false)), type := 4, pos := "law.go:88", after := #[{ on := 39, ground := Go.Ground.data }, { on := 46, ground := Go.Ground.data }], guard := none }) (v := ?_) rfl (by kernel_rfl) (by kernel_rfl) (by kernel_rfl) (fun _ _ _ h => h) (Or.inl ⟨by rfl, ?_⟩) (by assumption) ?_
      rotate_left 1
      · (intro w hSw; (try dsimp only at hSw); go_simp; first | done | with_reducible rfl)
      try simp only [Act.put, List.setIfInBounds_toArray, List.set_cons_zero, List.set_cons_succ]
      refine wpAnyH_take (i := 48) (oi := { dst := some 4, op := Go.Op.assign (Go.Operand.tmp 99), type := 4, pos := "law.go:88", after := #[{ on := 47, ground := Go.Ground.data }, { on := 44, ground := Go.Ground.chain }, { on := 0, ground := Go.Ground.phase }, { on := 1, ground := Go.Ground.phase }, { on := 2, ground := Go.Ground.phase }, { on := 3, ground := Go.Ground.phase }, { on := 4, ground := Go.Ground.phase }, { on := 5, ground := Go.Ground.phase }, { on := 6, ground := Go.Ground.phase }, { on := 7, ground := Go.Ground.phase }, { on := 8, ground := Go.Ground.phase }, { on := 9, ground := Go.Ground.phase }, { on := 10, ground := Go.Ground.phase }, { on := 11, ground := Go.Ground.phase }, { on := 12, ground := Go.Ground.phase }, { on := 13, ground := Go.Ground.phase }, { on := 14, ground := Go.Ground.phase }, { on := 15, ground := Go.Ground.phase }, { on := 16, ground := Go.Ground.phase }, { on := 17, ground := Go.Ground.phase }, { on := 18, ground := Go.Ground.phase }, { on := 19, ground := Go.Ground.phase }, { on := 20, ground := Go.Ground.phase }, { on := 21, ground := Go.Ground.phase }, { on := 22, ground := Go.Ground.phase }, { on := 23, ground := Go.Ground.phase }, { on := 24, ground := Go.Ground.phase }, { on := 25, ground := Go.Ground.phase }, { on := 26, ground := Go.Ground.phase }, { on := 27, ground := Go.Ground.phase }, { on := 28, ground := Go.Ground.phase }, { on := 29, ground := Go.Ground.phase }, { on := 30, ground := Go.Ground.phase }, { on := 31, ground := Go.Ground.phase }, { on := 32, ground := Go.Ground.phase }, { on := 33, ground := Go.Ground.phase }, { on := 34, ground := Go.Ground.phase }, { on := 35, ground := Go.Ground.phase }, { on := 36, ground := Go.Ground.phase }, { on := 37, ground := Go.Ground.phase }, { on := 38, ground := Go.Ground.phase }, { on := 39, ground := Go.Ground.phase }, { on := 40, ground := Go.Ground.phase }, { on := 41, ground := Go.Ground.phase }, { on := 42, ground := Go.Ground.phase }, { on := 43, ground := Go.Ground.phase }, { on := 44, ground := Go.Ground.phase }, { on := 45, ground := Go.Ground.phase }, { on := 46, ground := Go.Ground.phase }, { on := 47, ground := Go.Ground.phase }], guard := none }) (v := ?_) rfl (by kernel_rfl) (by kernel_rfl) (by kernel_rfl) (fun _ _ _ h => h) (Or.inl ⟨by rfl, ?_⟩) (by assumption) ?_
      rotate_left 1
      · (intro w hSw; (try dsimp only at hSw); go_simp; first | done | with_reducible rfl)
      try simp only [Act.put, List.setIfInBounds_toArray, List.set_cons_zero, List.set_cons_succ]
      refine wpAnyH_done (by kernel_rfl) ?_ _
      refine NoPanic.normal ?_
      rotate_left 1
      all_goals
        have HK := Lib.hid (HP.out.trans (I13.out.1.trans hHeld.1))
        clear hHeld
        go_wp2_with fail
        go_ret
        exact ⟨rfl, HK.out⟩
end Go.Proofs.Ytblijgcfelnlmaa.P09

/- Package rules: lineEnd, line; strings.Clone. -/
import Derived.Test.YtmeiboaagkoadaaGreatDoorKK12
import Derived.Test.YtmeiboaagkoadaaGreatDoorKK04
import Derived.Lib.IndexLaws
namespace Go.Proofs.YtmeiboaagkoadaaGreatDoor.Ref06
open Go.RowKit Go.Proofs.YtmeiboaagkoadaaGreatDoor.Base

theorem slice_from (l : List UInt8) (lo : Nat) (h1 : lo ≤ l.length) (w : World) : (Instr.slice 9 (str l) (some (.int .i64 lo)) none none).run Tryz.prog w = .ok (str (l.drop lo)) w := by
  have hs := size_str l
  have e := sub_cut l lo l.length
  have e2 : sub l lo l.length = l.drop lo := by unfold sub; rw [List.take_length]
  rw [e2] at e
  have a4 : (0 : Int) ≤ lo := by omega
  simp [Instr.slice, Instr.sliceBounds, Instr.sliceBound, run_underlying (P := Tryz.prog) Tryz.underlying9, asIntOf, hs, e, h1, a4, go_sem]

theorem idx_end (l : List UInt8) (a : Nat) (ha : a ≤ l.length) : (∃ o : Nat, Lib.indexByte (l.drop a) 10 = o ∧ endN l a = a + o) ∨ (Lib.indexByte (l.drop a) 10 = -1 ∧ endN l a = l.length) := by
  have hg := Lib.indexByte_ge (l.drop a) 10
  have key : ∀ k, a ≤ k → (l.drop a)[k - a]? ≠ some 10 → k < l.length → byteAt l k ≠ 10 := fun k h1 h2 h3 h4 => by
    refine h2 ?_
    rw [List.getElem?_drop, show a + (k - a) = k from by omega]
    unfold byteAt at h4
    rw [List.getElem?_eq_getElem h3] at h4 ⊢
    exact congrArg some (UInt8.toNat_inj.1 h4)
  by_cases h : Lib.indexByte (l.drop a) 10 = -1
  · refine .inr ⟨h, endN_eq ha (Nat.le_refl _) (fun k h1 h2 => key k h1 (Lib.indexByte_none h (k - a)) h2) (fun h => absurd h (Nat.lt_irrefl _))⟩
  · obtain ⟨o, ho⟩ : ∃ o : Nat, Lib.indexByte (l.drop a) 10 = o := ⟨(Lib.indexByte (l.drop a) 10).toNat, by omega⟩
    obtain ⟨h1, h2⟩ := Lib.indexByte_some ho
    rw [List.getElem?_drop] at h1
    have hlt : a + o < l.length := (List.getElem?_eq_some_iff.1 h1).1
    refine .inl ⟨o, ho, endN_eq (by omega) (by omega) (fun k h3 h4 => key k h3 (h2 (k - a) (by omega)) (by omega)) (fun _ => ?_)⟩
    unfold byteAt
    rw [h1]
    rfl

theorem index_any (l : List UInt8) (w : World) : Calls Tryz.prog 66 #[str l, .int .u8 10] w fun e w' => e = .returned (.int .i64 (Lib.indexByte l 10)) ∧ w = w' :=
  (Lay.strings_IndexByte ⟨l.toArray⟩ 10 w).mono fun _ _ ⟨h, k⟩ => ⟨h, k.symm⟩

set_option maxRecDepth 100000 in
set_option maxHeartbeats 1000000 in
theorem lineEnd_any (l : List UInt8) (hl : l.length ≤ 1000000000) (a : Nat) (ha : a ≤ l.length) (w : World) : Calls Tryz.prog 47 #[str l, .int .i64 a] w fun e w' => e = .returned (.int .i64 (endN l a)) ∧ w = w' := by
  have hs := size_str l
  have hsl := fun w => slice_from l a ha w
  have hle := endN_le ha
  have hcase := idx_end l a ha
  have hcall := fun w => index_any (l.drop a) w
  obtain ⟨E, hE⟩ : ∃ E, endN l a = E := ⟨_, rfl⟩
  rw [hE] at hcase hle ⊢
  obtain ⟨D, hD⟩ : ∃ D, l.drop a = D := ⟨_, rfl⟩
  rw [hD] at hsl hcall hcase
  obtain ⟨B, hB⟩ : ∃ B : ByteArray, (⟨l.toArray⟩ : ByteArray) = B := ⟨_, rfl⟩
  unfold str at hsl ⊢
  rw [hB] at hs hsl ⊢
  have HC := Lib.hid hcall
  clear hB hD hE hcall
  rcases hcase with ⟨o, h1, h2⟩ | ⟨h1, h2⟩
  · subst h2
    rw [h1] at HC
    clear h1
    go_enter Tryz.func47, Tryz.ntmps47
    go_wp2_with fail
    refine (HC.out w).mono ?_
    rintro e w' ⟨rfl, rfl⟩
    have h0 : (0 : Int) ≤ o := by omega
    go_wp2_with fail
    go_ret
    exact ⟨ret_int (by simp), rfl⟩
  · subst h2
    rw [h1] at HC
    clear h1
    go_enter Tryz.func47, Tryz.ntmps47
    go_wp2_with fail
    refine (HC.out w).mono ?_
    rintro e w' ⟨rfl, rfl⟩
    have h0 : ¬ (0 : Int) ≤ -1 := by omega
    go_wp2_with fail
    go_ret
    exact ⟨rfl, rfl⟩

theorem clone_any (l : List UInt8) (hl : l.length ≤ 1000000000) (w : World) : Calls Tryz.prog 70 #[str l] w fun e w' => e = .returned (str l) ∧ Keep (fun _ => False) w w' := by
  have H := Lib.hid (Lay.stringslite_Clone ⟨l.toArray⟩ w (by rw [size_str]; omega))
  go_enter Tryz.func70, Tryz.ntmps70
  go_wp2_with fail
  refine H.out.mono ?_
  rintro e w' ⟨rfl, q⟩
  have Q := Lib.hid (Keep.of_below q)
  clear q
  go_wp2_with fail
  go_ret
  exact ⟨rfl, Q.out⟩

set_option maxRecDepth 100000 in
set_option maxHeartbeats 2000000 in
theorem line_any (l : List UInt8) (hl : l.length ≤ 1000000000) (a k t : Nat) (hak : a ≤ k) (hkt : k < t) (htl : t ≤ l.length) (w : World) :
    Calls Tryz.prog 49 #[str l, .int .i64 a, .int .i64 k, .int .i64 t] w fun e w' => e = .returned (lineV (sub l a k) (sub l (k + 1) t) (k + 1 : Nat)) ∧ Keep (fun _ => False) w w' := by
  have hs := size_str l
  have s1 := fun w => slice_run l a k hak (by omega) w
  have s2 := fun w => slice_run l (k + 1) t (by omega) htl w
  have l1 : (sub l a k).length ≤ 1000000000 := by unfold sub; simp; omega
  have l2 : (sub l (k + 1) t).length ≤ 1000000000 := by unfold sub; simp; omega
  rw [show ((k + 1 : Nat) : Int) = (k : Int) + 1 from rfl] at s2
  obtain ⟨X, hX⟩ : ∃ X, sub l a k = X := ⟨_, rfl⟩
  obtain ⟨Y, hY⟩ : ∃ Y, sub l (k + 1) t = Y := ⟨_, rfl⟩
  rw [hX] at s1 l1 ⊢
  rw [hY] at s2 l2 ⊢
  have d1 := fun w => clone_any X l1 w
  have d2 := fun w => clone_any Y l2 w
  obtain ⟨BX, hBX⟩ : ∃ B : ByteArray, (⟨X.toArray⟩ : ByteArray) = B := ⟨_, rfl⟩
  obtain ⟨BY, hBY⟩ : ∃ B : ByteArray, (⟨Y.toArray⟩ : ByteArray) = B := ⟨_, rfl⟩
  obtain ⟨B, hB⟩ : ∃ B : ByteArray, (⟨l.toArray⟩ : ByteArray) = B := ⟨_, rfl⟩
  unfold lineV
  unfold str at s1 s2 d1 d2 ⊢
  rw [hB] at hs s1 s2
  rw [hB]
  rw [hBX] at s1 d1 ⊢
  rw [hBY] at s2 d2 ⊢
  have HD := Lib.hid (And.intro d1 d2)
  clear d1 d2 hB hX hY hBX hBY
  have hw : IntKind.i64.wrap ((k : Int) + 1) = (k : Int) + 1 := by rw [IntKind.wrap_i64]; omega
  go_enter Tryz.func49, Tryz.ntmps49
  go_wp2_with fail
  have a6 := At.new w #[.string ⟨#[]⟩, .string ⟨#[]⟩, .int .i64 0] 57
  have q6 := (Keep.refl (fun _ => False) w).alloc (.cells #[.string ⟨#[]⟩, .string ⟨#[]⟩, .int .i64 0] 57)
  have A1 := Lib.hid (And.intro a6 q6)
  clear a6 q6
  generalize (w.alloc (.cells #[.string ⟨#[]⟩, .string ⟨#[]⟩, .int .i64 0] 57)) = W at *
  have f0 := A1.out.1.frozen 0
  have f1 := A1.out.1.frozen 1
  have f2 := A1.out.1.frozen 2
  generalize hn : w.heap.size = n at *
  have HN := Lib.hid hn
  clear hn
  go_region_with (first
    | (go_at_call 70; refine (HD.out.1 _).mono ?_; rintro e w1 ⟨rfl, q1⟩; have H1 := Lib.hid (And.intro (A1.out.1.drew.keep q1 (fun h => h)) (A1.out.2.drew.trans q1)); clear q1; have c0 := H1.out.1.cell (o := 0) rfl; have c1 := H1.out.1.cell (o := 1) rfl; have c2 := H1.out.1.cell (o := 2) rfl)
    | (go_at_call 70; refine (HD.out.2 _).mono ?_; rintro e w2 ⟨rfl, q2⟩; have H2 := Lib.hid (And.intro (H1.out.1.keep q2 (fun h => h)) (H1.out.2.trans q2)); clear q2; have c0 := H2.out.1.cell (o := 0) rfl; have c1 := H2.out.1.cell (o := 1) rfl; have c2 := H2.out.1.cell (o := 2) rfl; have f0 := H2.out.1.frozen 0; have f1 := H2.out.1.frozen 1; have f2 := H2.out.1.frozen 2))
  all_goals
    go_wp2_with fail
    have aa := ((H2.out.1.set 0 (.string BX)).set 1 (.string BY)).set 2 (.int .i64 ((k : Int) + 1))
    have q := ((H2.out.2.setCell (p := ⟨n, 0, none⟩) (fun h => absurd h (by rw [HN.out]; simp)) (.string BX)).setCell (p := ⟨n, 1, none⟩) (fun h => absurd h (by rw [HN.out]; simp)) (.string BY)).setCell (p := ⟨n, 2, none⟩) (fun h => absurd h (by rw [HN.out]; simp)) (.int .i64 ((k : Int) + 1))
    generalize World.setCell _ _ _ = W2 at *
    have e0 := aa.cell (o := 0) rfl
    have e1 := aa.cell (o := 1) rfl
    have e2 := aa.cell (o := 2) rfl
    exact bodyPost_ret (v := .agg #[.string BX, .string BY, .int .i64 ((k : Int) + 1)]) (by simp [results, Tryz.results49, go_sem, e0, e1, e2]) rfl ⟨rfl, q⟩
end Go.Proofs.YtmeiboaagkoadaaGreatDoor.Ref06

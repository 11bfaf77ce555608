/- The document's own Ranges, List. -/
import Derived.Test.YtdiegmejkipacaaDoorRanges
import Derived.Test.YtdiegmejkipacaaDoorIL
namespace Go.Proofs.YtdiegmejkipacaaDoor.Bytes
open Go.RowKit Go.Proofs.YtdiegmejkipacaaDoor.Base Go.Proofs.YtdiegmejkipacaaDoor.Sets Go.Proofs.YtdiegmejkipacaaDoor.PL Go.Proofs.YtdiegmejkipacaaDoor.IL

theorem PL.last {w : World} {v : Value} {L : List (Nat × Nat)} {r : Nat × Nat} (h : PL w v (L ++ [r])) :
    ∃ g cap, v = .slice (some ⟨g, 0, none⟩) (L.length + 1) cap ∧ w.cell? ⟨g, L.length * 2 + 1, none⟩ = some (.int .u8 r.2) ∧ w.frozen? ⟨g, L.length * 2 + 1, none⟩ = false := by
  obtain ⟨a, cap, hv, -, hc⟩ := h.form
  obtain ⟨g, hg, ha, h1, h2, h3⟩ := hc L.length r (by simp)
  refine ⟨g, cap, by rw [hv, ha]; simp, ?_, h3 _⟩
  rw [show L.length * 2 + 1 = 2 * L.length + 1 from by omega]
  exact h2

/-- A byte behind one that is there: the last range ends just ahead of it. -/
theorem rgs_tail {p : Nat → Bool} {k : Nat} (h0 : k ≠ 0) (h : p (k - 1) = true) : ∃ L r, rgs p k = L ++ [r] := by
  obtain ⟨r0, hr0, -⟩ := ((rgs_ok p k).mem (k - 1)).2 ⟨by omega, h⟩
  rcases List.eq_nil_or_concat (rgs p k) with e | ⟨l', r, e⟩
  · rw [e] at hr0; simp at hr0
  · exact ⟨l', r, by rw [e, List.concat_eq_append]⟩

set_option maxRecDepth 100000 in
theorem rranges_any (s : ST) (w : World) : Calls Tryd.prog 10 #[val s] w (IsRanges (rgs s.has 256) w) := by
  go_enter Tryd.func10, Tryd.ntmps10
  go_wp2_with fail
  have a1 := At.new w (cells s) 24
  have q1 := (Keep.refl (fun _ => False) w).alloc (.cells (cells s) 24)
  have A1 := Lib.hid (And.intro a1 q1)
  clear a1 q1
  generalize (w.alloc (.cells (cells s) 24)) = W at *
  go_wp2_with fail
  go_loopg [3, 4] 256 (fun gg v i wr => ∃ k : Nat, i = .int .i64 k ∧ k + gg = 256 ∧ PL wr v (rgs s.has k) ∧ (∀ g, v.ownBlock = some g → w.heap.size ≤ g ∧ g ≠ w.heap.size) ∧ At wr w.heap.size 24 (cells s) ∧ Keep (fun _ => False) w wr)
  case atStart => exact ⟨0, rfl, rfl, PL.nil _, fun g hg => (by cases hg), A1.out.1, A1.out.2⟩
  case round =>
    obtain ⟨k, rfl, hk, hp, hb, ha, hq⟩ := hrel
    by_cases hlt : k < 256
    · have hlt' : (k : Int) < 256 := by omega
      obtain ⟨⟨c0, c1, c2, c3⟩, -⟩ := cells4 ha
      have H := Lib.hid (And.intro hk (And.intro hp (And.intro hb (And.intro ha hq))))
      clear hk hp hb ha hq
      go_wp2_with fail
      refine (rhas_any s k hlt wr).mono ?_
      rintro e w2 ⟨rfl, q2⟩
      obtain ⟨hk, hp, hb, ha, hq⟩ := H.out
      have ha2 := ha.keep q2 (fun h => h)
      have hp2 := hp.keep q2 (fun _ _ h => h)
      have hq2 := hq.trans q2
      clear H ha hp hq c0 c1 c2 c3
      obtain ⟨⟨c0, c1, c2, c3⟩, -⟩ := cells4 ha2
      cases hh : s.has k with
      | false =>
        have hr := rgs_no hh
        have H := Lib.hid (And.intro hk (And.intro hp2 (And.intro hb (And.intro ha2 (And.intro hq2 hr)))))
        clear hk hp2 hb ha2 hq2 hr q2
        go_wp2_with fail
        go_roundg (256 - (k + 1))
        case measure => have := H.out.1; omega
        case rel =>
          obtain ⟨hk, hp2, hb, ha2, hq2, hr⟩ := H.out
          exact ⟨k + 1, by go_num, by omega, by rw [hr]; exact hp2, hb, ha2, hq2⟩
      | true =>
        by_cases hnew : k = 0 ∨ s.has (k - 1) = false
        · have hr := rgs_new hh hnew
          have H := Lib.hid (And.intro hk (And.intro hp2 (And.intro hb (And.intro ha2 (And.intro hq2 hr)))))
          clear hk hp2 hb ha2 hq2 q2 hr
          have fin : ∀ wx, Keep (fun _ => False) w2 wx → ∃ v' w', (Builtin.append_ #[27, 27] 27 #[u3, .slice (some ⟨wx.heap.size, 0, none⟩) 1 1]).run Tryd.prog (wx.alloc (.cells #[.int .u8 k, .int .u8 k] 30)) = .ok v' w' ∧
              PL w' v' (rgs s.has (k + 1)) ∧ (∀ g, v'.ownBlock = some g → w.heap.size ≤ g ∧ g ≠ w.heap.size) ∧ At w' w.heap.size 24 (cells s) ∧ Keep (fun _ => False) w w' := fun wx qx => by
            obtain ⟨hk, hp2, hb, ha2, hq2, hr⟩ := H.out
            have ha3 := ha2.keep qx (fun h => h)
            obtain ⟨v', w4, hrun, hp4, q4, hb4⟩ := (hp2.keep qx (fun _ _ h => h)).push (k, k) (by have := rgs_le s.has k; omega) 27
            refine ⟨v', w4, hrun, by rw [hr]; exact hp4, fun g hg => ?_, ha3.keep q4 (fun h => (hb _ h).2 rfl), (hq2.trans qx).next q4 (fun i hi hl => by have := (hb i hi).1; omega)⟩
            rcases hb4 g hg with h | h
            · exact hb g h
            · have := ha3.lt
              omega
          have F := Lib.hid fin
          clear fin
          by_cases hk0 : k = 0
          · obtain ⟨v', w4, hrun, R⟩ := F.out w2 (Keep.refl _ _)
            have HR := Lib.hid R
            clear R F
            subst hk0
            go_wp2_with (at_builtin; refine Lib.wpList_append_run _ rfl _ _ _ _ rfl _ _ rfl rfl _ _ hrun ?_)
            clear hrun
            go_wp2_with fail
            go_roundg (256 - (0 + 1))
            case measure => have := H.out.1; omega
            case rel => exact ⟨0 + 1, by go_num, by have := H.out.1; omega, HR.out⟩
          · have hk0' : (0 : Int) < (k : Int) := by omega
            have hf : s.has (k - 1) = false := by rcases hnew with h | h; exact absurd h hk0; exact h
            go_wp2_with fail
            have hcon := rhas_any s (k - 1) (by omega) w2
            rw [show ((k - 1 : Nat) : Int) = (k : Int) - 1 from by omega, hf] at hcon
            refine hcon.mono ?_
            rintro e w5 ⟨rfl, q5⟩
            obtain ⟨v', w4, hrun, R⟩ := F.out w5 q5
            have HR := Lib.hid R
            clear R F
            go_wp2_with (at_builtin; refine Lib.wpList_append_run _ rfl _ _ _ _ rfl _ _ rfl rfl _ _ hrun ?_)
            clear hrun
            go_wp2_with fail
            go_roundg (256 - (k + 1))
            case measure => have := H.out.1; omega
            case rel => exact ⟨k + 1, by go_num, by have := H.out.1; omega, HR.out⟩
        · have hk0 : k ≠ 0 := fun h => hnew (.inl h)
          have hpk : s.has (k - 1) = true := by
            cases h : s.has (k - 1)
            · exact absurd (.inr h) hnew
            · rfl
          have hk0' : (0 : Int) < (k : Int) := by omega
          have hr := rgs_more hh hk0 hpk
          obtain ⟨L, r, hL⟩ := rgs_tail hk0 hpk
          have hll : L.length < 256 := by have := rgs_le s.has k; rw [hL] at this; simp at this; omega
          rw [hL] at hp2 hr
          rw [show r = (r.1, r.2) from rfl, stretch_append] at hr
          have H := Lib.hid (And.intro hk (And.intro hp2 (And.intro hb (And.intro ha2 (And.intro hq2 hr)))))
          clear hk hp2 hb ha2 hq2 q2 hr hL hnew
          go_wp2_with fail
          have hcon := rhas_any s (k - 1) (by omega) w2
          rw [show ((k - 1 : Nat) : Int) = (k : Int) - 1 from by omega, hpk] at hcon
          refine hcon.mono ?_
          rintro e w5 ⟨rfl, q5⟩
          have hp5 := H.out.2.1.keep q5 (fun _ _ h => h)
          obtain ⟨g, cap, rfl, e1, e2⟩ := PL.last hp5
          have HP := Lib.hid (And.intro hp5 q5)
          clear hp5 q5 hcon hpk
          go_wp2_with fail
          go_roundg (256 - (k + 1))
          case measure => have := H.out.1; omega
          case rel =>
            obtain ⟨hk, hp2, hb, ha2, hq2, hr⟩ := H.out
            obtain ⟨hp5, q5⟩ := HP.out
            have hg := hb g rfl
            have h9 := hp5.set_last k (g := g) rfl
            rw [show 2 * L.length + 1 = L.length * 2 + 1 from by omega] at h9
            refine ⟨k + 1, by go_num, by omega, by rw [hr]; exact h9, hb, (ha2.keep q5 (fun h => h)).setOther (p := ⟨g, L.length * 2 + 1, none⟩) (fun h => hg.2 h.symm) _, (hq2.trans q5).setCell (p := ⟨g, L.length * 2 + 1, none⟩) (fun h => by have h' : g < w.heap.size := h; omega) _⟩
    · have hk256 : k = 256 := by omega
      subst hk256
      have H := Lib.hid (And.intro hp (And.intro hb hq))
      clear hp hb hq ha hk
      go_wp2
      go_ret
      exact ⟨_, rfl, H.out.1, fun g hg => (H.out.2.1 g hg).1, H.out.2.2⟩
end Go.Proofs.YtdiegmejkipacaaDoor.Bytes

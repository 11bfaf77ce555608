/- Contract of parts' without. -/
import Derived.Test.YtidfjeliofgpmaaDoorEqSet
namespace Go.Proofs.YtidfjeliofgpmaaDoor.Bytes
open Go.RowKit Go.Proofs.YtidfjeliofgpmaaDoor.Base Go.Proofs.YtidfjeliofgpmaaDoor.Sets

theorem without_any (s t : ST) (hs : s.Ok) (ht : t.Ok) (w : World) : Calls Tryd.prog 31 #[val s, val t] w fun e w' => e = .returned (val (s.and t.not)) ∧ Keep (fun _ => False) w w' := by
  go_enter Tryd.func31, Tryd.ntmps31
  go_wp2_with fail
  have a1 := ((At.new w (cells s) 35).alloc (.cells (cells t) 35)).alloc (.cells zeros 35)
  have a2 := (At.new (w.alloc (.cells (cells s) 35)) (cells t) 35).alloc (.cells zeros 35)
  have a3 := At.new ((w.alloc (.cells (cells s) 35)).alloc (.cells (cells t) 35)) zeros 35
  have q := (((Keep.refl (fun _ => False) w).alloc (.cells (cells s) 35)).alloc (.cells (cells t) 35)).alloc (.cells zeros 35)
  rw [show (w.alloc (.cells (cells s) 35)).heap.size = w.heap.size + 1 from by simp] at a2
  rw [show ((w.alloc (.cells (cells s) 35)).alloc (.cells (cells t) 35)).heap.size = w.heap.size + 2 from by simp] at a3
  have A1 := Lib.hid (And.intro a1 (And.intro a2 (And.intro a3 q)))
  clear a1 a2 a3 q
  generalize (((w.alloc (.cells (cells s) 35)).alloc (.cells (cells t) 35)).alloc (.cells zeros 35)) = W at *
  obtain ⟨⟨c0, c1, c2, c3⟩, -⟩ := cells4 A1.out.1
  obtain ⟨⟨d0, d1, d2, d3⟩, -⟩ := cells4 A1.out.2.1
  obtain ⟨⟨e0, e1, e2, e3⟩, f0, f1, f2, f3⟩ := cells4 A1.out.2.2.1
  generalize hn : w.heap.size = n at *
  have HN := Lib.hid hn
  clear hn
  go_region_with (first
    | (go_at_call 22; refine (not_any t ht _).mono ?_; rintro e w1 ⟨rfl, q1⟩; have H1 := Lib.hid (And.intro (A1.out.1.drew.keep q1 (fun h => h)) (And.intro (A1.out.2.2.1.drew.keep q1 (fun h => h)) (A1.out.2.2.2.drew.trans q1))); clear q1; obtain ⟨⟨c0, c1, c2, c3⟩, -⟩ := cells4 H1.out.1; obtain ⟨⟨e0, e1, e2, e3⟩, f0, f1, f2, f3⟩ := cells4 H1.out.2.1)
    | (go_at_call 21; refine (and_any s t.not hs (ST.not_ok _) _).mono ?_; rintro e w2 ⟨rfl, q2⟩; have H2 := Lib.hid (And.intro (H1.out.2.1.keep q2 (fun h => h)) (H1.out.2.2.trans q2)); clear q2; obtain ⟨⟨e0, e1, e2, e3⟩, f0, f1, f2, f3⟩ := cells4 H2.out.1))
  all_goals
    go_wp2_with fail
    generalize hr : s.and t.not = r at *
    have a := set4 H2.out.1 (.int .u64 r.x0) (.int .u64 r.x1) (.int .u64 r.x2) (.int .u64 r.x3)
    have q := keep4 H2.out.2 (b := n + 2) (fun h => absurd h (by rw [HN.out]; omega)) (.int .u64 r.x0) (.int .u64 r.x1) (.int .u64 r.x2) (.int .u64 r.x3)
    generalize World.setCell _ _ _ = W2 at *
    obtain ⟨⟨x0, x1, x2, x3⟩, -⟩ := cells4 a
    exact bodyPost_ret (v := val r) (by simp [results, Tryd.results31, go_sem, x0, x1, x2, x3]) rfl ⟨rfl, q⟩
end Go.Proofs.YtidfjeliofgpmaaDoor.Bytes

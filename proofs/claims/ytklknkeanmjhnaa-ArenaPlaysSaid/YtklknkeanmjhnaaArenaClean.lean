/- Clean of an arena: what no region has holds noughts. -/
import Derived.Test.YtklknkeanmjhnaaArena
import Derived.Test.YtklknkeanmjhnaaArenaRW
import Derived.Test.YtklknkeanmjhnaaRuns
import Derived.Test.YtklknkeanmjhnaaNoughts
import Derived.Test.YtklknkeanmjhnaaRoundQuiet
namespace Go.Proofs.Ytklknkeanmjhnaa.Arena
open Go.RowKit Go.Shelf Go.Proofs.Ytklknkeanmjhnaa.Base Go.Proofs.Ytklknkeanmjhnaa.Stretch Go.Proofs.Ytklknkeanmjhnaa.Regs Go.Proofs.Ytklknkeanmjhnaa.Row

attribute [local go_sem] Oper.semAt_some

theorem clean_nil (w : World) : Calls Try.prog 28 #[.pointer none] w fun e w' => e = .returned (.bool true) ∧ Keep (fun _ => False) w w' := by
  go_enter Try.func28, Try.ntmps28
  go_wp2
  exact bodyPost_ret (v := .bool true) (by simp [results, Try.results28, go_sem]) rfl ⟨rfl, ((Keep.refl _ _).alloc _).alloc _⟩

theorem min_is (x y z : Int) (ts : Array TypeId) (t : TypeId) (w : World) (h : z = min x y) : (Builtin.min_ ts t #[.int .i64 x, .int .i64 y]).run Try.prog w = .ok (.int .i64 z) w := by
  subst h
  rw [run_min_int2]
  congr 2
  split <;> omega

set_option maxRecDepth 100000 in
set_option maxHeartbeats 2000000 in
theorem clean_any (b : Nat) (mp : Option Nat) (s : AS) (F : List Nat) (w : World) (h : Ar w b mp s F) :
    Calls Try.prog 28 #[ptr b] w fun e w' => e = .returned (.bool true) ∧ Keep (fun _ => False) w w' := by
  refine (callsIn_wide (n := 3)).1 ?_
  obtain ⟨h0, t, cv, cn, rb, hB, -⟩ := h
  refine callsIn_of_wp_marks Try.func28 rfl trivial ?_ rfl
  simp only [Try.ntmps28, List.size_toArray, List.length_cons, List.length_nil, Nat.reduceAdd, Nat.reduceSub, Array.replicate_succ, Array.replicate_zero, List.push_toArray, List.append_toArray, List.nil_append, List.cons_append]
  gi_wp2
  have q2 : Keep (fun _ => False) w ((w.alloc (.cells #[ptr b] 29)).alloc (.cells #[.bool false] 4)) := ((Keep.refl _ w).alloc _).alloc _
  have B2 := hB.keep q2 (fun _ _ h => h)
  have hz := h0.sz
  have x1 := (At.new w #[ptr b] 29).alloc (.cells #[.bool false] 4)
  have x2 := At.new (w.alloc (.cells #[ptr b] 29)) #[.bool false] 4
  rw [show (w.alloc (.cells #[ptr b] 29)).heap.size = w.heap.size + 1 from by simp] at x2
  have z2 : ((w.alloc (.cells #[ptr b] 29)).alloc (.cells #[.bool false] 4)).heap.size = w.heap.size + 2 := by simp
  generalize (w.alloc (.cells #[ptr b] 29)).alloc (.cells #[.bool false] 4) = w2 at *
  refine range_method (α := Piece s.fr) (encs := pieceV) rfl (by omega) (gf := 59) (rv := np b 2) rfl trivial (enters_of Try.func59 (by kernel_rfl) rfl) (fun _ => rfl)
    (fun l W1 hk hY => runs_any l W1 s.fr (fun m x W h => yield_any (hY x W h)) t _ b 2 (by have := B2.sz; omega) (Tr.keep hk B2.tr id (fun _ _ => id)) (fun i _ => B2.fr i))
    (fun x => { tmps := #[ptr b, .pointer (some ⟨w.heap.size, 0, none⟩), .pointer (some ⟨w.heap.size + 1, 0, none⟩), .int .i64 x.1.1, .int .i64 x.1.2, ptr b, .bool false, ptr b, .pointer (some ⟨b, 0, none⟩), .pointer (some ⟨b, 2, none⟩), .func (.func 59) #[.pointer (some ⟨b, 2, none⟩)] #[], .int .i64 x.1.1, .int .i64 x.1.2, undef, undef, undef, undef, undef, undef, undef, undef, undef, undef, undef, undef, undef, undef, undef, undef, undef, undef, undef, undef, undef], defers := [] }) ?assign ?body ?done
  case assign =>
    intro l x W K hK
    simp only [pieceV]
    gi_wp2
    exact hK
  case body =>
    intro l x W hk
    obtain ⟨⟨f, u⟩, g1, g2, g3⟩ := x
    simp only at g1 g2 g3 ⊢
    have B3 := B2.keep hk (fun _ _ h => h)
    have c1 : W.cell? ⟨w.heap.size, 0, none⟩ = some (ptr b) := (x1.keep hk id).cell rfl
    have k1 : W.cell? ⟨b, 1, none⟩ = some cv := B3.at_.cell rfl
    have zer : ∀ p, f ≤ p → p < u → s.C p = 0 := fun p h1 h2 => h0.zero p (g3 p h1 h2)
    have hmx : Try.prog.follows .mixedOrders = true := by kernel_rfl
    have hfn : Fence.wide.fn 60 := trivial
    rcases id B3.row with ⟨rfl, rfl⟩ | ⟨g, cap, cur, rfl, ha, hcap, hmax, hcur, hval⟩
    · have no : ∀ (k len m : Nat), len = 0 → CallsIn (Fence.wide.inRound l) m Try.prog 60 #[.slice none len 0] (W.drewN k) fun e w' => e = .returned (.bool true) ∧ ∃ j, w' = W.drewN j := fun k len m h => by
        subst h
        exact CallsIn.inRound l (callsIn_wide.2 ((noughts_none none 0 (W.drewN k)).mono fun e w' h => ⟨h.1, k, h.2.symm⟩))
      have NO := Lib.hid no
      clear zer g3 B3 hk g1 g2 no
      gi_wp2
      refine round_quiet (by intro o ho c; simp only [List.mem_cons, List.not_mem_nil, or_false] at ho; rcases ho with rfl | rfl | rfl | rfl | rfl | rfl | rfl | rfl | rfl | rfl | rfl | rfl | rfl | rfl | rfl | rfl | rfl | rfl | rfl | rfl | rfl <;> simp) hmx (by kernel_rfl) ?_
      repeat (gi_big_quiet_step ((exact NO.out _ _ _ (by split <;> split <;> omega))))
      refine wpQuietIn_nil ?_
      rintro w' ⟨nq, rfl⟩
      gi_wp2
      first | exact ⟨rfl, nq, rfl⟩ | exact ⟨nq, rfl⟩
    · obtain ⟨lo, hlo⟩ : ∃ lo, lo = min f cn := ⟨_, rfl⟩
      obtain ⟨hi, hhi⟩ : ∃ hi, hi = min u cn := ⟨_, rfl⟩
      have hcn : cn ≤ 1048576 := by have := B3.cn1; omega
      have no : ∀ (ao : Option Addr) (len c m k : Nat), (len = 0 ∨ ao = some ⟨g, lo, none⟩ ∧ len = hi - lo) → CallsIn (Fence.wide.inRound l) m Try.prog 60 #[.slice ao len c] (W.drewN k) fun e w' => e = .returned (.bool true) ∧ ∃ j, w' = W.drewN j := fun ao len c m k h => by
        rcases h with rfl | ⟨rfl, rfl⟩
        · exact CallsIn.inRound l (callsIn_wide.2 ((noughts_none ao c (W.drewN k)).mono fun e w' h => ⟨h.1, k, h.2.symm⟩))
        · refine CallsIn.inRound l (callsIn_wide.2 ((noughts_some g lo (hi - lo) c (W.drewN k) (by omega) fun j hjl => ?_).mono fun e w' h => ⟨h.1, k, h.2.symm⟩))
          have := (ha.drewN k).cell (hval (lo + j) (by omega))
          rw [this, zer _ (by omega) (by omega)]
      have hm1 : ∀ ts ty w', (Builtin.min_ ts ty #[.int .i64 f, .int .i64 cn]).run Try.prog w' = .ok (.int .i64 lo) w' := fun ts ty w' => min_is _ _ _ ts ty w' (by omega)
      have hm2 : ∀ ts ty w', (Builtin.min_ ts ty #[.int .i64 u, .int .i64 cn]).run Try.prog w' = .ok (.int .i64 hi) w' := fun ts ty w' => min_is _ _ _ ts ty w' (by omega)
      have e1 : lo ≤ hi := by omega
      have e2 : hi ≤ cn := by omega
      have e3 : lo ≤ 1048576 ∧ hi ≤ 1048576 := by omega
      obtain ⟨e3, e4⟩ := e3
      have NO := Lib.hid no
      clear no hval zer g3 ha hcur B3 hk hlo hhi g1 g2
      gi_wp2
      refine round_quiet (by intro o ho c; simp only [List.mem_cons, List.not_mem_nil, or_false] at ho; rcases ho with rfl | rfl | rfl | rfl | rfl | rfl | rfl | rfl | rfl | rfl | rfl | rfl | rfl | rfl | rfl | rfl | rfl | rfl | rfl | rfl | rfl <;> simp) hmx (by kernel_rfl) ?_
      repeat (gi_big_quiet_step ((exact NO.out _ _ _ _ _ (by by_cases cc : cap = lo; exact .inl (by omega); exact .inr ⟨by rw [if_neg cc], rfl⟩))))
      refine wpQuietIn_nil ?_
      rintro w' ⟨nq, rfl⟩
      gi_wp2
      first | exact ⟨rfl, nq, rfl⟩ | exact ⟨nq, rfl⟩
  case done =>
    intro D W hD hk hK
    have y2 := x2.keep hk id
    have c2 : W.cell? ⟨w.heap.size + 1, 0, none⟩ = some (.bool false) := y2.cell rfl
    have f2 := y2.frozen 0
    have Q2 := Lib.hid (And.intro q2 hk)
    clear q2 B2 hB hk
    gi_wp2
    have hK2 := (KeepsOthers.setCell W ⟨w.heap.size + 1, 0, none⟩ (.bool true)).same D _ hK rfl
    have hfin : ((W.setCell ⟨w.heap.size + 1, 0, none⟩ (.bool true)).putObj D (.deferred none)).cell? ⟨w.heap.size + 1, 0, none⟩ = some (.bool true) := by
      have y3 := y2.set 0 (.bool true)
      have y4 : At ((W.setCell ⟨w.heap.size + 1, 0, none⟩ (.bool true)).putObj D (.deferred none)) (w.heap.size + 1) 4 #[.bool true] := (World.putObj_heap_other (by omega)).trans y3
      exact y4.cell rfl
    refine ⟨by simp, .inl ⟨_, _, rfl, run_takeDeferred hK2, .bool true, by simp [results, Try.results28, go_sem, hfin], rfl, ?_⟩⟩
    exact (((Q2.out.1.trans Q2.out.2).setCell (fun h => by simp at h; omega) _).putObj (by omega) _)

end Go.Proofs.Ytklknkeanmjhnaa.Arena

/- runs: the free places of a tree, one run after another, handed to a loop's body that goes on. -/
import Derived.Test.YtklknkeanmjhnaaTree
import Derived.Test.YtklknkeanmjhnaaRangeMethod
import Derived.Shelf.Abstract
import Derived.Shelf.RegionOpen
import Derived.WalkKit
import Derived.OwnWalkIn
import Derived.TacticsInMore
import Derived.LoopNIn
import Derived.Deep.RegionHeld3
import Derived.LoopIn
namespace Go.Proofs.Ytklknkeanmjhnaa.Stretch
open Go.RowKit Go.Shelf Go.Proofs.Ytklknkeanmjhnaa.Base

attribute [local go_sem] Oper.semAt_some

/-- A run of free places: from, to. -/
abbrev Piece (p : Nat → Bool) : Type := { x : Nat × Nat // x.1 ≤ x.2 ∧ x.2 ≤ 1048576 ∧ ∀ i, x.1 ≤ i → i < x.2 → p i = true }

def pieceV {p : Nat → Bool} (x : Piece p) : Array Value := #[.int .i64 x.1.1, .int .i64 x.1.2]

theorem yield_any {m m' : Nat} {P : Program} {l : Nat} {args : Array Value} {W : World} {R : Ending → World → Prop} (h : YieldAt Fence.wide m P l args W R) : YieldAt Fence.wide m' P l args W R := by
  obtain ⟨fn, tmps, assign, body, hy, h1, h2⟩ := h
  exact ⟨fn, tmps, assign, body, hy, h1, fun c cs _ => h2 c cs (fun d h => by cases h)⟩

set_option maxRecDepth 100000 in
set_option maxHeartbeats 2000000 in
theorem runsFrom_leaf (l : Nat) (W0 : World) (p : Nat → Bool) (hY : ∀ m (x : Piece p) W1, Drawn W0 W1 → YieldAt Fence.wide m Try.prog l (pieceV x) W1 fun e W' => e = .returned (.bool true) ∧ Drawn W1 W')
    (k : Nat) (f : Bool) (n b o base : Nat) (W : World) (hz : base + k ≤ 1048576) (hT : Tr W0 b o (.leaf k f)) (hp : ∀ i, i < k → (TR.leaf k f).free i = p (base + i)) (hJ : Drawn W0 W) :
    CallsIn Fence.wide n Try.prog 68 #[np b o, .int .i64 base, .func (.yield l) #[] #[]] W fun e W' => e = .returned (.bool true) ∧ Drawn W W' := by
  have hdd : ∀ k : Nat, (Fence.wide.depth.isSome = true → 1 ≤ k) := fun k h => by cases h
  obtain ⟨k0, -, -, k3, k4, -, -⟩ := Nd.cells (Tr.nd (Tr.keep (S := fun _ => False) (hJ.keep _) hT id (fun _ _ => id)))
  simp only [TR.nv, TR.size, TR.mo, TR.kidL, kid, Option.map_none] at k0 k3 k4
  by_cases hm : f = true ∧ 1 ≤ k
  · obtain ⟨rfl, hk⟩ := hm
    have hmb : ((k : Int) == 0) = false := by simp; omega
    simp only [if_true] at k3
    obtain ⟨fn, tmps, assign, body, hy, hR⟩ := hY (n - 1) ⟨(base, base + k), by simp, hz, fun i h1 h2 => by have := hp (i - base) (by omega); rw [show base + (i - base) = i from by omega] at this; rw [← this]; simp [TR.free]; omega⟩ W hJ
    simp only [pieceV, Int.natCast_add] at hy
    clear hp hT hY hJ
    refine callsIn_of_wp Try.func68 rfl trivial ?_ rfl
    simp only [Try.ntmps68, List.size_toArray, List.length_cons, List.length_nil, Nat.reduceAdd, Nat.reduceSub, Array.replicate_succ, Array.replicate_zero, List.push_toArray, List.append_toArray, List.nil_append, List.cons_append]
    gi_wp2
    refine ⟨hdd _, ?_⟩
    refine hR.mono ?_
    rintro e W2 ⟨rfl, hJ2⟩
    gi_wp2
    go_ret
    exact ⟨rfl, hJ2⟩
  · have hmo : (if f = true then k else 0) = 0 := by
      cases f with
      | false => rfl
      | true => simp only [true_and] at hm; simp; omega
    rw [hmo] at k3
    clear hp hT hY hm hmo hJ
    refine callsIn_of_wp Try.func68 rfl trivial ?_ rfl
    simp only [Try.ntmps68, List.size_toArray, List.length_cons, List.length_nil, Nat.reduceAdd, Nat.reduceSub, Array.replicate_succ, Array.replicate_zero, List.push_toArray, List.append_toArray, List.nil_append, List.cons_append]
    gi_wp2
    go_ret
    exact ⟨rfl, 0, rfl⟩

set_option maxRecDepth 100000 in
set_option maxHeartbeats 2000000 in
theorem runsFrom_node (l : Nat) (bl : Nat) (tl : TR) (br : Nat) (tr : TR) (n b o base : Nat) (W : World)
    (ihl : ∀ k, Calls Try.prog 68 #[np bl 0, .int .i64 base, .func (.yield l) #[] #[]] (W.drewN k) fun e W' => e = .returned (.bool true) ∧ ∃ m, W' = W.drewN m)
    (ihr : ∀ k, Calls Try.prog 68 #[np br 0, .int .i64 (base + tl.size : Int), .func (.yield l) #[] #[]] (W.drewN k) fun e W' => e = .returned (.bool true) ∧ ∃ m, W' = W.drewN m)
    (hz : base + (tl.size + tr.size) ≤ 1048576) (hT : Tr W b o (.node bl tl br tr)) :
    CallsIn Fence.wide n Try.prog 68 #[np b o, .int .i64 base, .func (.yield l) #[] #[]] W fun e W' => e = .returned (.bool true) ∧ Drawn W W' := by
  obtain ⟨-, -, -, k3, k4, k5, -⟩ := hT.nd.cells
  have l0 : W.cell? ⟨bl, 0, none⟩ = some (.int .i64 tl.size) := hT.2.1.nd.cells.1
  simp only [TR.nv, TR.kidL, TR.kidR, kid, Option.map_some] at k3 k4 k5
  clear hT
  generalize (TR.node bl tl br tr).mo = mo at *
  refine callsIn_wide.2 ?_
  by_cases hm : mo = 0
  · subst hm
    simp only [Int.natCast_zero] at k3
    clear ihl ihr
    go_enter Try.func68, Try.ntmps68
    go_wp2
    go_ret
    exact ⟨rfl, 0, rfl⟩
  · have hmb : ((mo : Int) == 0) = false := by simp; omega
    have both : ∀ (c : Nat) (x : Int) (k : Nat), (c = bl ∧ x = base ∨ c = br ∧ x = base + tl.size) → Calls Try.prog 68 #[np c 0, .int .i64 x, .func (.yield l) #[] #[]] (W.drewN k) fun e W' => e = .returned (.bool true) ∧ ∃ m, W' = W.drewN m := by
      rintro c x k (⟨rfl, rfl⟩ | ⟨rfl, rfl⟩)
      · exact ihl k
      · exact ihr k
    have hb := Lib.hid both
    clear ihl ihr both
    go_enter Try.func68, Try.ntmps68
    go_wp2_with fail
    go_quiet ((go_at_call 68; exact hb.out _ _ _ (by first | exact .inl ⟨rfl, rfl⟩ | exact .inr ⟨rfl, rfl⟩)))
    go_wp2
    go_ret
    exact ⟨rfl, nq, rfl⟩

theorem drewN_add (W : World) (a b : Nat) : (W.drewN a).drewN b = W.drewN (a + b) := by simp [World.drewN, Nat.add_assoc]

/-- runsFrom, at every tree. -/
theorem runsFrom_any (l : Nat) (W0 : World) (p : Nat → Bool) (hY : ∀ m (x : Piece p) W1, Drawn W0 W1 → YieldAt Fence.wide m Try.prog l (pieceV x) W1 fun e W' => e = .returned (.bool true) ∧ Drawn W1 W') :
    ∀ (t : TR) (n b o base : Nat) (W : World), base + t.size ≤ 1048576 → Tr W0 b o t → (∀ i, i < t.size → t.free i = p (base + i)) → Drawn W0 W →
    CallsIn Fence.wide n Try.prog 68 #[np b o, .int .i64 base, .func (.yield l) #[] #[]] W fun e W' => e = .returned (.bool true) ∧ Drawn W W'
  | .leaf k f, n, b, o, base, W, hz, hT, hp, hJ => runsFrom_leaf l W0 p hY k f n b o base W hz hT hp hJ
  | .node bl tl br tr, n, b, o, base, W, hz, hT, hp, hJ => by
    simp only [TR.size] at hz hp
    have more : ∀ k, Drawn W0 (W.drewN k) := fun k => by
      obtain ⟨j, rfl⟩ := hJ
      exact ⟨j + k, drewN_add _ _ _⟩
    have later : ∀ {k : Nat} {W' : World}, Drawn (W.drewN k) W' → ∃ m, W' = W.drewN m := fun {k} {W'} d => by
      obtain ⟨j, rfl⟩ := d
      exact ⟨k + j, drewN_add _ _ _⟩
    refine runsFrom_node l bl tl br tr n b o base W (fun k => ?_) (fun k => ?_) hz (Tr.keep (S := fun _ => False) (hJ.keep _) hT id (fun _ _ => id))
    · refine ((callsIn_wide (n := 0)).1 (runsFrom_any l W0 p hY tl 0 bl 0 base _ (by omega) hT.2.1 (fun i hi => ?_) (more k))).mono fun _ _ h => ⟨h.1, later h.2⟩
      have := hp i (by omega)
      rw [← this]
      simp only [TR.free]
      rw [if_pos hi]
    · have h := (callsIn_wide (n := 0)).1 (runsFrom_any l W0 p hY tr 0 br 0 (base + tl.size) _ (by omega) hT.2.2 (fun i hi => ?_) (more k))
      · rw [Int.natCast_add] at h
        exact h.mono fun _ _ h => ⟨h.1, later h.2⟩
      · have := hp (tl.size + i) (by omega)
        rw [show base + tl.size + i = base + (tl.size + i) from by omega, ← this]
        simp only [TR.free]
        rw [if_neg (by omega), show tl.size + i - tl.size = i from by omega]

/-- runs, called by a loop. -/
theorem runs_any (l : Nat) (W : World) (p : Nat → Bool) (hY : ∀ m (x : Piece p) W1, Drawn W W1 → YieldAt Fence.wide m Try.prog l (pieceV x) W1 fun e W' => e = .returned (.bool true) ∧ Drawn W1 W')
    (t : TR) (n b o : Nat) (hz : t.size ≤ 1048576) (hT : Tr W b o t) (hp : ∀ i, i < t.size → t.free i = p i) :
    CallsIn Fence.wide n Try.prog 59 #[np b o, .func (.yield l) #[] #[]] W fun e W' => (∃ v, e = .returned v) ∧ Drawn W W' := by
  have h := (callsIn_wide (n := 0)).1 (runsFrom_any l W p hY t 0 b o 0 W (by omega) hT (fun i hi => by rw [Nat.zero_add]; exact hp i hi) ⟨0, rfl⟩)
  simp only [Int.natCast_zero] at h
  refine callsIn_wide.2 ?_
  clear hY hT hp
  go_enter Try.func59, Try.ntmps59
  go_wp2_with (go_at_call 68; refine h.mono ?_; clear h; rintro e W1 ⟨rfl, J1⟩)
  go_end0
  exact ⟨⟨_, rfl⟩, J1⟩

end Go.Proofs.Ytklknkeanmjhnaa.Stretch

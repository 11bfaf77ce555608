/- The document's parser (layer 7): atom. -/
import Derived.Test.YtmeiboaagkoadaaGreatDoorKK20
import Derived.Test.YtmeiboaagkoadaaGreatDoorKK02
namespace Go.Proofs.YtmeiboaagkoadaaGreatDoor.P07
open Go.RowKit Go.Proofs.YtmeiboaagkoadaaGreatDoor.Base Go.Proofs.YtmeiboaagkoadaaGreatDoor.IL Go.Proofs.YtmeiboaagkoadaaGreatDoor.Bytes
open Go.Proofs.YtmeiboaagkoadaaGreatDoor.Sets (ST)

end Go.Proofs.YtmeiboaagkoadaaGreatDoor.P07
/- The document's parser (layer 7): item. -/
namespace Go.Proofs.YtmeiboaagkoadaaGreatDoor.P07
open Go.RowKit Go.Proofs.YtmeiboaagkoadaaGreatDoor.Base Go.Proofs.YtmeiboaagkoadaaGreatDoor.IL Go.Proofs.YtmeiboaagkoadaaGreatDoor.Bytes
open Go.Proofs.YtmeiboaagkoadaaGreatDoor.Sets (ST)

theorem Lie.under {w : World} {ok : Nat → Prop} {a : Option Addr} {M : List T} (h : Lie w ok a M) : Lie w (fun k => ok k ∧ k < w.heap.size) a M := by
  induction h with
  | nil a => exact .nil a
  | cons bl off L A C hL hb hok hC hc _ ih => exact .cons bl off L A C hL hb ⟨hok, hb⟩ hC hc ih

def sgs : List UInt8 := [42, 43, 63, 123]

end Go.Proofs.YtmeiboaagkoadaaGreatDoor.P07
/- The document's parser (layer 7): item with a sign. -/
namespace Go.Proofs.YtmeiboaagkoadaaGreatDoor.P07
open Go.RowKit Go.Proofs.YtmeiboaagkoadaaGreatDoor.Base Go.Proofs.YtmeiboaagkoadaaGreatDoor.IL Go.Proofs.YtmeiboaagkoadaaGreatDoor.Bytes
open Go.Proofs.YtmeiboaagkoadaaGreatDoor.Sets (ST)

@[reducible] def rcells (mn mx : Int) (n4 : Nat) : Array Value := #[.int .i64 5, .int .u64 0, .int .u64 0, .int .u64 0, .int .u64 0, .int .i64 mn, .int .i64 mx, .slice (some ⟨n4, 0, none⟩) 1 1]
end Go.Proofs.YtmeiboaagkoadaaGreatDoor.P07
/- The document's parser (layer 7): item with braces. -/
namespace Go.Proofs.YtmeiboaagkoadaaGreatDoor.P07
open Go.RowKit Go.Proofs.YtmeiboaagkoadaaGreatDoor.Base Go.Proofs.YtmeiboaagkoadaaGreatDoor.IL Go.Proofs.YtmeiboaagkoadaaGreatDoor.Bytes
open Go.Proofs.YtmeiboaagkoadaaGreatDoor.Sets (ST)

theorem sgs_no {c : Int} (h1 : c ≠ 42) (h2 : c ≠ 43) (h3 : c ≠ 63) (h4 : c ≠ 123) : inL sgs c = false := by
  refine inL_no (fun k hk => ?_)
  have h : k < 4 := hk
  have e : k = 0 ∨ k = 1 ∨ k = 2 ∨ k = 3 := by omega
  rcases e with rfl | rfl | rfl | rfl
  · rw [show (byteAt sgs 0 : Int) = 42 from by decide]; exact Ne.symm h1
  · rw [show (byteAt sgs 1 : Int) = 43 from by decide]; exact Ne.symm h2
  · rw [show (byteAt sgs 2 : Int) = 63 from by decide]; exact Ne.symm h3
  · rw [show (byteAt sgs 3 : Int) = 123 from by decide]; exact Ne.symm h4

end Go.Proofs.YtmeiboaagkoadaaGreatDoor.P07
/- The document's parser (layer 7): cat. -/
namespace Go.Proofs.YtmeiboaagkoadaaGreatDoor.P07
open Go.RowKit Go.Proofs.YtmeiboaagkoadaaGreatDoor.Base Go.Proofs.YtmeiboaagkoadaaGreatDoor.IL Go.Proofs.YtmeiboaagkoadaaGreatDoor.Bytes
open Go.Proofs.YtmeiboaagkoadaaGreatDoor.Sets (ST)

theorem OT.lt {w : World} {ok : Nat → Prop} {v : Value} {L : List T} (h : OT w ok v L) {g : Nat} (hg : v.ownBlock = some g) : g < w.heap.size ∧ ok g := by
  obtain ⟨X, ⟨h1, h2, _⟩, _⟩ := h
  refine ⟨?_, h2 g hg⟩
  rcases h1.2 with ⟨rfl, _⟩ | ⟨g', cap, cur, rfl, _, h3, _⟩
  · cases hg
  · cases hg
    exact (Array.getElem?_eq_some_iff.1 h3).1

end Go.Proofs.YtmeiboaagkoadaaGreatDoor.P07
/- The document's parser (layer 7): alt. -/
namespace Go.Proofs.YtmeiboaagkoadaaGreatDoor.P07
open Go.RowKit Go.Proofs.YtmeiboaagkoadaaGreatDoor.Base Go.Proofs.YtmeiboaagkoadaaGreatDoor.IL Go.Proofs.YtmeiboaagkoadaaGreatDoor.Bytes
open Go.Proofs.YtmeiboaagkoadaaGreatDoor.Sets (ST)

theorem OT.one (w : World) (ok : Nat → Prop) (t : T) (a : Option Addr) (c : Nat) (hc : t.subs.length ≤ c) (hl : Lie w ok a t.subs) (hok : ok w.heap.size) :
    OT (w.alloc (.cells (ncells t a c) 27)) ok (.slice (some ⟨w.heap.size, 0, none⟩) 1 1) [t] := by
  refine ⟨[(t, a, c)], ⟨⟨rfl, .inr ⟨w.heap.size, 1, ncells t a c, rfl, ?_, At.new w _ _, ?_, ?_, ?_, ?_⟩⟩, fun g hg => ?_, fun x hx => ?_⟩, rfl⟩
  · simp
  · simp
  · simp [maxLen]
  · simp
  · simp
  · injection hg with hg
    rw [← hg]
    exact hok
  · rw [List.mem_singleton.1 hx]
    refine ⟨hc, ((hl.under).keepF ((Keep.refl (fun _ => False) w).alloc (.cells (ncells t a c) 27))).mono (fun k hk => ⟨hk.1, fun e => ?_⟩)⟩
    have e' : some w.heap.size = some k := e
    injection e' with e'
    have : k < w.heap.size := hk.2
    omega

end Go.Proofs.YtmeiboaagkoadaaGreatDoor.P07

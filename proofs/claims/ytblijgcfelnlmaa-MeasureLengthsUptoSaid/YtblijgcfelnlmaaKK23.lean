/- The document's parser (layer 7): atom. -/
import Derived.Test.YtblijgcfelnlmaaKK22
import Derived.Test.YtblijgcfelnlmaaKK03
namespace Go.Proofs.Ytblijgcfelnlmaa.P07
open Go.RowKit Go.Proofs.Ytblijgcfelnlmaa.Base Go.Proofs.Ytblijgcfelnlmaa.IL Go.Proofs.Ytblijgcfelnlmaa.Bytes
open Go.Proofs.Ytblijgcfelnlmaa.Sets (ST)

end Go.Proofs.Ytblijgcfelnlmaa.P07
/- The document's parser (layer 7): item. -/
namespace Go.Proofs.Ytblijgcfelnlmaa.P07
open Go.RowKit Go.Proofs.Ytblijgcfelnlmaa.Base Go.Proofs.Ytblijgcfelnlmaa.IL Go.Proofs.Ytblijgcfelnlmaa.Bytes
open Go.Proofs.Ytblijgcfelnlmaa.Sets (ST)

theorem Lie.under {w : World} {ok : Nat → Prop} {a : Option Addr} {M : List T} (h : Lie w ok a M) : Lie w (fun k => ok k ∧ k < w.heap.size) a M := by
  induction h with
  | nil a => exact .nil a
  | cons bl off L A C hL hb hok hC hc _ ih => exact .cons bl off L A C hL hb ⟨hok, hb⟩ hC hc ih

def sgs : List UInt8 := [42, 43, 63, 123]

end Go.Proofs.Ytblijgcfelnlmaa.P07
/- The document's parser (layer 7): item with a sign. -/
namespace Go.Proofs.Ytblijgcfelnlmaa.P07
open Go.RowKit Go.Proofs.Ytblijgcfelnlmaa.Base Go.Proofs.Ytblijgcfelnlmaa.IL Go.Proofs.Ytblijgcfelnlmaa.Bytes
open Go.Proofs.Ytblijgcfelnlmaa.Sets (ST)

@[reducible] def rcells (mn mx : Int) (n4 : Nat) : Array Value := #[.int .i64 5, .int .u64 0, .int .u64 0, .int .u64 0, .int .u64 0, .int .i64 mn, .int .i64 mx, .slice (some ⟨n4, 0, none⟩) 1 1]
end Go.Proofs.Ytblijgcfelnlmaa.P07
/- The document's parser (layer 7): item with braces. -/
namespace Go.Proofs.Ytblijgcfelnlmaa.P07
open Go.RowKit Go.Proofs.Ytblijgcfelnlmaa.Base Go.Proofs.Ytblijgcfelnlmaa.IL Go.Proofs.Ytblijgcfelnlmaa.Bytes
open Go.Proofs.Ytblijgcfelnlmaa.Sets (ST)

theorem sgs_no {c : Int} (h1 : c ≠ 42) (h2 : c ≠ 43) (h3 : c ≠ 63) (h4 : c ≠ 123) : inL sgs c = false := by
  refine inL_no (fun k hk => ?_)
  have h : k < 4 := hk
  have e : k = 0 ∨ k = 1 ∨ k = 2 ∨ k = 3 := by omega
  rcases e with rfl | rfl | rfl | rfl
  · rw [show (byteAt sgs 0 : Int) = 42 from by decide]; exact Ne.symm h1
  · rw [show (byteAt sgs 1 : Int) = 43 from by decide]; exact Ne.symm h2
  · rw [show (byteAt sgs 2 : Int) = 63 from by decide]; exact Ne.symm h3
  · rw [show (byteAt sgs 3 : Int) = 123 from by decide]; exact Ne.symm h4

end Go.Proofs.Ytblijgcfelnlmaa.P07

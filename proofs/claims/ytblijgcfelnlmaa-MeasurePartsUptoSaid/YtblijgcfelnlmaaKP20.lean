/- The document's bare and round (layer 8). -/
import Derived.Test.YtblijgcfelnlmaaKP19
import Derived.Test.YtblijgcfelnlmaaKP18
import Derived.Laws.StructEq
namespace Go.Proofs.Ytblijgcfelnlmaa.P08
open Go.RowKit Go.Proofs.Ytblijgcfelnlmaa.Base Go.Proofs.Ytblijgcfelnlmaa.Bytes Go.Proofs.Ytblijgcfelnlmaa.P07
open Go.Proofs.Ytblijgcfelnlmaa.Sets (ST)

set_option maxRecDepth 100000 in
set_option maxHeartbeats 4000000 in
theorem fround_any (t s : T) (a : Option Addr) (c : Nat) (b : Option Addr) (e : Nat) (w : World) : Calls Try.prog 48 #[nodeV t a c, nodeV s b e] w fun e w' => e = .returned (.bool (rnd t.kind s.kind)) ∧ Keep (fun _ => False) w w' := by
  have q := ((Keep.refl (fun _ => False) w).alloc (.cells (ncells t a c) 27)).alloc (.cells (ncells s b e) 27)
  go_enter Try.func48, Try.ntmps48
  go_wp2_with fail
  all_goals
    go_ret
    refine ⟨Bytes.ret_bool ?_, q⟩
    rw [Bool.eq_iff_iff]
    unfold rnd
    try simp_all
    try omega

set_option maxRecDepth 100000 in
set_option maxHeartbeats 4000000 in
theorem fbare_any (t : T) (a : Option Addr) (c : Nat) (w : World) : Calls Try.prog 47 #[nodeV t a c] w fun e w' => e = .returned (.bool (bareB t)) ∧ Keep (fun _ => False) w w' := by
  have a0 := At.new w (ncells t a c) 27
  have q := (Keep.refl (fun _ => False) w).alloc (.cells (ncells t a c) 27)
  obtain ⟨E, hE⟩ : ∃ E, eqB t.set ST.none = E := ⟨_, rfl⟩
  have es : ∀ W, (Op.equalIn 10000 24 (.agg #[.int .u64 (t.set.x0 : Int), .int .u64 (t.set.x1 : Int), .int .u64 (t.set.x2 : Int), .int .u64 (t.set.x3 : Int)]) (.agg #[.int .u64 0, .int .u64 0, .int .u64 0, .int .u64 0])).run Try.prog W = .ok E W := fun W => by
    rw [← hE]
    exact eq_set t.set ST.none W
  have HE := Lib.hid (And.intro hE q)
  clear hE q
  cases E
  all_goals
    go_enter Try.func47, Try.ntmps47
    go_wp2_with fail
    all_goals
      go_ret
      refine ⟨Bytes.ret_bool ?_, HE.out.2⟩
      rw [Bool.eq_iff_iff]
      unfold bareB
      rw [HE.out.1]
      clear a0 es HE
      try simp_all
      try omega
end Go.Proofs.Ytblijgcfelnlmaa.P08

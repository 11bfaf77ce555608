/- The code's digest, node by node (layer 10): it is told by what the expression is. -/
import Derived.Test.YtmohpjpodkbgkaaKK29
import Derived.Test.YtmohpjpodkbgkaaKK30
import Derived.Test.YtmohpjpodkbgkaaKK26
namespace Go.Proofs.Ytmohpjpodkbgkaa.P10
open Go.RowKit Go.Proofs.Ytmohpjpodkbgkaa.Base Go.Proofs.Ytmohpjpodkbgkaa.Bytes Go.Proofs.Ytmohpjpodkbgkaa.P07 Go.Proofs.Ytmohpjpodkbgkaa.P08
open Go.Proofs.Ytmohpjpodkbgkaa.Sets (ST)

def rot (x : Int) : Int := Go.bits .or .u64 (IntKind.u64.wrap (x * 4294967296)) (x / 4294967296)
theorem bits32 : Go.bits .and .u64 32 63 = 32 := by decide +kernel
theorem shl_32 (x : Int) (w : World) : (Op.shift .shl .u64 x .u64 32).run Try.prog w = .ok (.int .u64 (IntKind.u64.wrap (x * 4294967296))) w := by
  kernel_rfl
theorem shr_32 (x : Int) (w : World) : (Op.shift .shr .u64 x .u64 32).run Try.prog w = .ok (.int .u64 (x.fdiv 4294967296)) w := by
  kernel_rfl
set_option maxRecDepth 100000 in
theorem rot_any (x : Int) (w : World) : Calls Try.prog 75 #[.int .u64 x, .int .i64 32] w fun e w' => e = .returned (.int .u64 (rot x)) ∧ w = w' := by
  have hb := bits32
  have h1 := shl_32 x
  have h2 := shr_32 x
  obtain ⟨r, hr⟩ : ∃ r, rot x = r := ⟨_, rfl⟩
  have HR := Lib.hid hr
  rw [hr]
  clear hr
  go_enter Try.func75, Try.ntmps75
  go_wp2_with fail
  go_ret
  exact ⟨by rw [← HR.out]; rfl, rfl⟩

/-- A node's own words; what they make of the sum. -/
def word (t : T) : Nat → Int
  | 0 => IntKind.u64.wrap t.kind
  | 1 => t.set.x0
  | 2 => t.set.x1
  | 3 => t.set.x2
  | 4 => t.set.x3
  | 5 => IntKind.u64.wrap t.mn
  | 6 => IntKind.u64.wrap t.mx
  | _ => IntKind.u64.wrap t.subs.length
def stp (s v : Int) : Int := IntKind.u64.wrap (rot (IntKind.u64.wrap (Go.bits .xor .u64 s v * 11400714819323198485)) * 11400714819323198485)
def mixN (t : T) (s : Int) : Nat → Int
  | 0 => s
  | k + 1 => stp (mixN t s k) (word t k)
def mix (s : Int) (t : T) : Int := mixN t s 8
theorem word_run (t : T) (k : Nat) (h : k < 8) (w : World) : (Instr.index 87 (.agg #[.int .u64 (IntKind.u64.wrap t.kind), .int .u64 t.set.x0, .int .u64 t.set.x1, .int .u64 t.set.x2, .int .u64 t.set.x3, .int .u64 (IntKind.u64.wrap t.mn), .int .u64 (IntKind.u64.wrap t.mx), .int .u64 (IntKind.u64.wrap t.subs.length)]) (.int .i64 k)).run Try.prog w = .ok (.int .u64 (word t k)) w := by
  match k, h with
  | 0, _ => simp [Instr.index, run_underlying (P := Try.prog) Try.underlying87, asIntOf, go_sem]; rfl
  | 1, _ => simp [Instr.index, run_underlying (P := Try.prog) Try.underlying87, asIntOf, go_sem]; rfl
  | 2, _ => simp [Instr.index, run_underlying (P := Try.prog) Try.underlying87, asIntOf, go_sem]; rfl
  | 3, _ => simp [Instr.index, run_underlying (P := Try.prog) Try.underlying87, asIntOf, go_sem]; rfl
  | 4, _ => simp [Instr.index, run_underlying (P := Try.prog) Try.underlying87, asIntOf, go_sem]; rfl
  | 5, _ => simp [Instr.index, run_underlying (P := Try.prog) Try.underlying87, asIntOf, go_sem]; rfl
  | 6, _ => simp [Instr.index, run_underlying (P := Try.prog) Try.underlying87, asIntOf, go_sem]; rfl
  | 7, _ => simp [Instr.index, run_underlying (P := Try.prog) Try.underlying87, asIntOf, go_sem]; rfl

set_option maxRecDepth 100000 in
set_option maxHeartbeats 4000000 in
theorem mixed_any (s : Int) (t : T) (bl o : Nat) (a : Option Addr) (c : Nat) (w : World) (h : NodeP w bl o t a c) : Calls Try.prog 71 #[.int .u64 s, .pointer (some ⟨bl, o, none⟩)] w fun e w' => e = .returned (.int .u64 (mix s t)) ∧ Keep (fun _ => False) w w' := by
  obtain ⟨c0, c1, c2, c3, c4, c5, c6, c7⟩ := h.eight
  have hwr := word_run t
  have HW := Lib.hid hwr
  clear hwr h
  go_enter Try.func71, Try.ntmps71
  go_upto_region 1 with fail
  go_quiet (fail)
  go_wp2_with fail
  have q0 := Lib.hid ((Keep.refl (fun _ => False) w).drewN nq)
  generalize w.drewN nq = W at *
  go_loopg [0, 49] 8 (fun gg x i wr => ∃ k : Nat, i = .int .i64 k ∧ k + gg = 8 ∧ x = .int .u64 (mixN t s k) ∧ wr = W)
  case atStart => exact ⟨0, rfl, by omega, rfl, rfl⟩
  case round =>
    obtain ⟨k, rfl, hk, hx, rfl⟩ := hrel
    have k0 : (0 : Int) ≤ k := by omega
    by_cases hlt : k < 8
    · have hlt' : (k : Int) < 8 := by omega
      have hw := HW.out k hlt
      obtain ⟨S, hS⟩ : ∃ S, mixN t s k = S := ⟨_, rfl⟩
      obtain ⟨V, hV⟩ : ∃ V, word t k = V := ⟨_, rfl⟩
      rw [hS] at hx
      rw [hV] at hw
      subst hx
      have HN := Lib.hid (show mixN t s (k + 1) = stp S V by rw [mixN, hS, hV])
      clear hS hV
      go_wp2_with fail
      refine (rot_any _ _).mono ?_
      rintro e w2 ⟨rfl, rfl⟩
      go_wp2_with fail
      go_roundg (8 - (k + 1))
      case measure => omega
      case rel => exact ⟨k + 1, by go_num, by omega, by rw [HN.out]; rfl, rfl⟩
    · have hke : k = 8 := by omega
      subst hke
      rw [hx]
      go_wp2_with fail
      go_ret
      exact ⟨rfl, q0.out⟩
end Go.Proofs.Ytmohpjpodkbgkaa.P10

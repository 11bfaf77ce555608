/- Contracts of math/bits.TrailingZeros64, and of bytes256's from and Least. -/
import Derived.Test.YtlmfbchgkjgljaaKF07
import Derived.Shelf.Spec.TrailingZeros
import Derived.Deep.RegionHeld3
import Derived.Deep.DeepCutAuto
import Derived.Deep.CutBlock
set_option maxRecDepth 100000
set_option maxHeartbeats 32000000
open Go.Lib (hid)
namespace Go.Proofs.Ytlmfbchgkjgljaa
namespace Bytes
open Go.RowKit Base Sets
def cut (s:ST) (n:Nat):ST:=s.and (ST.below n).not
theorem index_run (c:ST) (k:Nat) (h:k<4) (w:World):(Instr.index 24 (val c) (.int .i64 k)).run Try.prog w=.ok (.int .u64 (c.w k)) w:=by
 match k,h with
 | 0,_=>simp [Instr.index,run_underlying (P:=Try.prog) Try.underlying24,asIntOf,go_sem];rfl
 | 1,_=>simp [Instr.index,run_underlying (P:=Try.prog) Try.underlying24,asIntOf,go_sem];rfl
 | 2,_=>simp [Instr.index,run_underlying (P:=Try.prog) Try.underlying24,asIntOf,go_sem];rfl
 | 3,_=>simp [Instr.index,run_underlying (P:=Try.prog) Try.underlying24,asIntOf,go_sem];rfl
end Bytes
namespace Bytes
open Go.RowKit Base Sets
def csum (s:ST):Nat→Nat
 | 0=>0
 | k+1=>csum s k+pc (s.w k)
theorem pc_le (x:Nat):pc x≤64:=cnt_le _ _
theorem csum_le (s:ST):∀ k,csum s k≤64 * k
 | 0=>Nat.le_refl _
 | k+1=>by
  have:=csum_le s k;have:=pc_le (s.w k);unfold csum;omega
theorem csum_4 (s:ST):csum s 4=s.count:=by
 rw [ST.count_words]
 simp [csum,ST.w]
theorem count_any (s:ST) (hs:s.Ok) (w:World):Calls Try.prog 72 #[val s] w fun e w'=>e=.returned (.int .i64 s.count)∧Keep (fun _=>False) w w':=by
 go_enter Try.func72,Try.ntmps72
 go_wp2_with fail;have a1:=At.new w (cells s) 24;have q1:=(Keep.refl (fun _=>False) w).alloc (.cells (cells s) 24)
 have A1:=hid q1;obtain ⟨⟨c0,c1,c2,c3⟩,-⟩:=cells4 a1;clear a1 q1;generalize (w.alloc (.cells (cells s) 24))=W at *;go_wp2_with fail
 go_loopg [3,7] 4 (fun gg n i wr=>∃ k:Nat,k+gg=4∧i=.int .i64 k∧n=.int .i64 (csum s k)∧Keep (fun _=>False) w wr)
 case atStart=>exact ⟨0,rfl,rfl,rfl,A1.out⟩
 case round =>
  obtain ⟨k,hk,rfl,rfl,hq⟩:=hrel
  by_cases hlt:k<4
  ·have hw:=index_run s k hlt wr
   have hx:=hs.w k;have hl:=csum_le s k;have hp:=pc_le (s.w k);have H:=hid (And.intro hk hq);clear hk hq;go_wp2_with fail;refine (ones_any (s.w k) hx wr).mono ?_;rintro e w' ⟨rfl,rfl⟩
   go_wp2
   go_roundg (4 - (k+1))
   case measure=>have:=H.out.1;omega
   case rel=>exact ⟨k+1,by have:=H.out.1;omega,by go_num,by show _=Value.int .i64 ((csum s k+pc (s.w k):Nat):Int);go_num,H.out.2⟩
  ·have hk4:k=4:=by omega
   subst hk4;have H:=hid hq;clear hq hk
   go_wp2
   go_ret;exact ⟨ret_int (by rw [csum_4]),H.out⟩
end Bytes
end Go.Proofs.Ytlmfbchgkjgljaa

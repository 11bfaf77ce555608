/- Contracts of math/bits.TrailingZeros64, and of bytes256's from and Least. -/
import Derived.Test.YthcjfgfbeollpaaDoorKB08
import Derived.Shelf.Spec.TrailingZeros
import Derived.Deep.RegionHeld3
import Derived.Deep.DeepCutAuto
import Derived.Deep.CutBlock
namespace Go.Proofs.YthcjfgfbeollpaaDoor
namespace Bytes
open Go.RowKit Base Sets
def Tab (w:World):Prop:=TabAt 0 Lib.deBruijn64tab w
theorem Tab.keep {w w':World} (h:Tab w) (q:Keep (fun _=>False) w w'):Tab w':=fun j hj=>by
 have hc:=h j hj;exact (q.cell (a:=⟨0,j,none⟩) (World.block_lt_of_cell? w _ hc) (fun h=>h)).trans hc
theorem tz_zero (w:World):Calls Tryd.prog 27 #[.int .u64 0] w fun e w'=>e=.returned (.int .i64 64)∧w=w':=by
 go_enter Tryd.func27,Tryd.ntmps27
 go_wp2
 go_ret;exact ⟨rfl,rfl⟩
theorem tz_core (x k idx:Nat) (w:World) (hx0:((x:Int) == 0)=false)
  (key:IntKind.u64.wrap (bits BinOp.and IntKind.u64 (x:Int) (IntKind.u64.wrap (-(x:Int))) * 285870213051353865) / 288230376151711744=(idx:Int))
  (hi:idx<64) (hk:k<64) (hcell:w.cell? ⟨0,idx,none⟩=some (.int .u8 k)) :
  Calls Tryd.prog 27 #[.int .u64 x] w fun e w'=>e=.returned (.int .i64 k)∧w=w':=by
 go_enter Tryd.func27,Tryd.ntmps27
 go_wp2_with (simp only [key]);go_ret;exact ⟨rfl,rfl⟩
theorem tz_any (x:Nat) (hx:x<18446744073709551616) (w:World) (hT:Tab w):Calls Tryd.prog 27 #[.int .u64 x] w fun e w'=>e=.returned (.int .i64 (Lib.ctz 64 x))∧w=w':=by
 by_cases hx0:x=0
 ·subst hx0
  exact tz_zero w
 ·obtain ⟨hlow,hk⟩:=Lib.lowest_bit 64 x hx0 hx
  obtain ⟨hi,htab⟩:=Lib.deBruijn64_at _ hk;have hcell:=hT _ hi;rw [htab] at hcell;exact tz_core x _ _ w (by simp;omega) (tz64_key x _ hx hx0 hlow) hi hk hcell
theorem ctz_spec (x:Nat) (h0:x≠0) (hx:x<18446744073709551616):Lib.ctz 64 x<64∧x.testBit (Lib.ctz 64 x)=true∧∀ j,j<Lib.ctz 64 x→x.testBit j=false:=by
 obtain ⟨m,hm,hk⟩:=Lib.ctzFrom_spec 64 x (by omega) hx
 unfold Lib.ctz;rw [if_neg h0];generalize Lib.ctzFrom 64 x=k at *;subst hm;refine ⟨hk,?_,fun j hj=>?_⟩
 ·rw [Nat.mul_comm,Nat.testBit_mul_two_pow]
  simp [Nat.testBit_zero]
 ·rw [Nat.mul_comm,Nat.testBit_mul_two_pow]
  simp [Nat.not_le.2 hj]
def cut (s:ST) (n:Nat):ST:=s.and (ST.below n).not
theorem cut_ok {s:ST} (hs:s.Ok) (n:Nat):(cut s n).Ok:=ST.and_ok hs
theorem has_cut (s:ST) (n b:Nat) (h:b<256):(cut s n).has b=(s.has b && decide (n≤b)):=by
 rw [cut,ST.has_and _ _ _ h,ST.has_not (ST.below_ok _) _ h,ST.has_below _ _ h]
 congr 1
 rw [Bool.eq_iff_iff]
 simp
def Clean (c:ST) (i:Nat):Prop:=∀ j,j<i→c.w j=0
theorem word_zero {c:ST} {i b:Nat} (h:Clean c i) (hb:b<64 * i):c.has b=false:=by
 unfold ST.has;rw [h (b / 64) (by omega),Nat.zero_testBit]
theorem found {s:ST} {n i:Nat} (hs:s.Ok) (hi:i<4) (h:Clean (cut s n) i) (h0:(cut s n).w i≠0):64 * i+Lib.ctz 64 ((cut s n).w i)=nxt s.has n:=by
 obtain ⟨a1,a2,a3⟩:=ctz_spec _ h0 ((cut_ok hs n).w i);generalize Lib.ctz 64 ((cut s n).w i)=k at *;have hh:(cut s n).has (64 * i+k)=true:=by
  unfold ST.has;rw [show (64 * i+k) / 64=i from by omega,show (64 * i+k) % 64=k from by omega]
  exact a2
 rw [has_cut _ _ _ (by omega)] at hh
 simp only [Bool.and_eq_true,decide_eq_true_eq] at hh
 refine Nx.eq ⟨hh.2,by omega,fun b h1 h2=>?_,fun _=>hh.1⟩
 have hb:(cut s n).has b=false:=by
  rcases Nat.lt_or_ge b (64 * i) with hlt | hge
  ·exact word_zero h hlt
  ·unfold ST.has
   rw [show b / 64=i from by omega]
   exact a3 _ (by omega)
 rw [has_cut _ _ _ (by omega)] at hb
 simpa [h1] using hb
theorem index_run (c:ST) (k:Nat) (h:k<4) (w:World):(Instr.index 24 (val c) (.int .i64 k)).run Tryd.prog w=.ok (.int .u64 (c.w k)) w:=by
 match k,h with
 | 0,_=>simp [Instr.index,run_underlying (P:=Tryd.prog) Tryd.underlying24,asIntOf,go_sem];rfl
 | 1,_=>simp [Instr.index,run_underlying (P:=Tryd.prog) Tryd.underlying24,asIntOf,go_sem];rfl
 | 2,_=>simp [Instr.index,run_underlying (P:=Tryd.prog) Tryd.underlying24,asIntOf,go_sem];rfl
 | 3,_=>simp [Instr.index,run_underlying (P:=Tryd.prog) Tryd.underlying24,asIntOf,go_sem];rfl
end Bytes
end Go.Proofs.YthcjfgfbeollpaaDoor

/- The code's nothing, isNothing, size, matchesEmpty (layer 12). -/
import Derived.Test.YtlmfbchgkjgljaaKF23
import Derived.Test.YtlmfbchgkjgljaaKF29
import Derived.Test.YtlmfbchgkjgljaaKF32
set_option maxRecDepth 100000
set_option maxHeartbeats 32000000
open Go.Lib (hid)
namespace Go.Proofs.Ytlmfbchgkjgljaa
namespace P12
open Go.RowKit Base Bytes P07 P08 P09 P10
open Sets (ST)
theorem nothing_any (ok:Nat→Prop) (w:World):Calls Try.prog 37 #[] w (Gives w ok noT):=by
 have r0:Rb w w.heap.size (w.alloc (.cells nzeros 27)):=⟨At.new w nzeros 27,(Keep.refl (fun _=>False) w).alloc _,Nat.le_refl _⟩
 have HR:=hid r0;clear r0
 go_enter Try.func37,Try.ntmps37
 go_upto_region 1 with fail;generalize (w.alloc (.cells nzeros 27))=W at *;obtain ⟨⟨d0,d1,d2,d3,d4,d5,d6,d7⟩,f0,f1,f2,f3,f4,f5,f6,f7⟩:=cells8 HR.out.out;have hlt:=HR.out.out.lt;go_wp2_with fail
 change bodyPost _ _ _ _ _ (putNd (W) (w.heap.size) 0 (noT) (none) (0))
 have hP:=HR.out.put (noT) (none) (0);have hG:=HR.out.gives (ok:=ok) (t:=noT) (Nat.le_refl 0) (.nil none);generalize (putNd (W) (w.heap.size) 0 (noT) (none) (0))=W9 at hP hG ⊢;obtain ⟨⟨e0,e1,e2,e3,e4,e5,e6,e7⟩,-⟩:=cells8 hP.1;exact bodyPost_ret (v:=nodeV (noT) (none) (0)) (by simp [results,Try.results37,go_sem,e0,e1,e2,e3,e4,e5,e6,e7]) rfl hG
theorem isno_any (t:T) (bl o:Nat) (a:Option Addr) (c:Nat) (w:World) (h:NodeP w bl o t a c):Calls Try.prog 28 #[.pointer (some ⟨bl,o,none⟩)] w fun e w'=>e=.returned (.bool (isNo t))∧w=w':=by
 obtain ⟨r,hr⟩:∃ r,isNo t=r:=⟨_,rfl⟩;obtain ⟨E,hE⟩:∃ E,eqB t.set ST.none=E:=⟨_,rfl⟩;have es:∀ W,(Op.equalIn 10000 24 (.agg #[.int .u64 (t.set.x0:Int),.int .u64 (t.set.x1:Int),.int .u64 (t.set.x2:Int),.int .u64 (t.set.x3:Int)]) (.agg #[.int .u64 0,.int .u64 0,.int .u64 0,.int .u64 0])).run Try.prog W=.ok E W:=fun W=>by
  rw [← hE];exact eq_set t.set ST.none W
 have hrE:r=(decide (t.kind=2) && E):=by rw [← hr,← hE];rfl
 have HR:=hid hrE;rw [hr];obtain ⟨c0,c1,c2,c3,c4,-,-,-⟩:=h.eight;clear hr hE hrE h
 by_cases h2:t.kind=2
 ·have h2':(t.kind == 2)=true:=by simpa using h2
  have HK:=hid h2;clear h2
  go_enter Try.func28,Try.ntmps28
  go_wp2_with fail;go_ret;exact ⟨by rw [HR.out,decide_eq_true HK.out,Bool.true_and];rfl,rfl⟩
 ·have h2':(t.kind == 2)=false:=by simpa using h2
  have HK:=hid h2;clear h2
  go_enter Try.func28,Try.ntmps28
  go_wp2_with fail;go_ret;exact ⟨by rw [HR.out,decide_eq_false HK.out,Bool.false_and];rfl,rfl⟩
theorem size_all:∀ (n:Nat) (t:T),SizeOf.sizeOf t<n→cnt t≤1000000000→∀ (bl o:Nat) (a:Option Addr) (c:Nat) (w:World),NodeP w bl o t a c→Lie w (fun _=>True) a t.subs →
  Calls Try.prog 54 #[.pointer (some ⟨bl,o,none⟩)] w fun e w'=>e=.returned (.int .i64 (cnt t))∧w=w'
 | 0,_,h,_,_,_,_,_,_,_,_=>absurd h (Nat.not_lt_zero _)
 | n+1,t,h,hc,bl,o,a,c,w,hP,hL=>by
  have hlen:=hL.len;have H0:=hid (And.intro hP (And.intro hL (size_all n)));have e:cnt t=1+cntL t.subs:=cnt_eq t;obtain ⟨C,hC⟩:∃ C,cnt t=C:=⟨_,rfl⟩;rw [hC] at e hc ⊢;have HE:=hid (And.intro e (cntL_pre t.subs));have HN:=hid h;obtain ⟨-,-,-,-,-,-,-,c7⟩:=hP.eight;clear hL e hC h hP
  go_enter Try.func54,Try.ntmps54
  go_wp2_with fail
  go_loopg [3,4,10] t.subs.length (fun gg m s4 i wr=>∃ (k:Nat) (M:Nat),i=.int .i64 k∧k+gg=t.subs.length∧m=.int .i64 M∧M=1+cntL (t.subs.take k)∧w=wr)
  case atStart=>exact ⟨0,1,rfl,by omega,rfl,by rw [List.take_zero,cntL],rfl⟩
  case round =>
   obtain ⟨k,M,rfl,hk,rfl,hM,rfl⟩:=hrel
   by_cases hlt:k<t.subs.length
   ·have hlt':(k:Int)<t.subs.length:=by omega
    have i0:(0:Int)≤k:=by omega
    obtain ⟨s,hs⟩:∃ s,t.subs[k]?=some s:=⟨t.subs[k],List.getElem?_eq_getElem hlt⟩;obtain ⟨b2,off,a1,e1,rfl,-,hbl,-,L1,C1⟩:=H0.out.2.1.get hs;have N1:NodeP w b2 (off+k * 8) s a1 e1:=⟨hbl,C1⟩;have hsl:=sub_less hs;have hcs:=cntL_le hs;have ht:=cntL_take hs;have hpre:=HE.out.2 (k+1);have he:=HE.out.1;have hcall:=H0.out.2.2 s (by have:=HN.out;omega) (by omega) b2 (off+k * 8) a1 e1 w N1 L1
    obtain ⟨Y,hY⟩:∃ Y,cnt s=Y:=⟨_,rfl⟩;rw [hY] at hcall ht;have hMb:M+Y≤1000000000:=by omega
    have HQ:=hid (And.intro hcall (And.intro ht hM));clear hcall ht hM N1 L1 C1 hs hcs hpre he hY hbl;go_wp2_with fail;refine HQ.out.1.mono ?_;rintro e w2 ⟨rfl,rfl⟩;go_wp2_with fail
    go_roundg (t.subs.length - (k+1))
    case measure=>omega
    case rel=>exact ⟨k+1,M+Y,by go_num,by omega,by go_num,by have:=HQ.out.2;omega,rfl⟩
   ·have hke:k=t.subs.length:=by omega
    subst hke;rw [List.take_length] at hM;have HQ:=hid hM;clear hM;go_wp2_with fail;go_ret;exact ⟨by rw [HE.out.1,HQ.out];rfl,rfl⟩
theorem size_any (t:T) (hc:cnt t≤1000000000) (bl o:Nat) (a:Option Addr) (c:Nat) (w:World) (hP:NodeP w bl o t a c) (hL:Lie w (fun _=>True) a t.subs) :
  Calls Try.prog 54 #[.pointer (some ⟨bl,o,none⟩)] w fun e w'=>e=.returned (.int .i64 (cnt t))∧w=w':=size_all _ t (Nat.lt_succ_self _) hc bl o a c w hP hL
theorem all_take {L:List T} {k:Nat} {s:T} (hs:L[k]?=some s) (h:(L.take k).all nullB=true):(L.take (k+1)).all nullB=nullB s:=by
 have hi:=(List.getElem?_eq_some_iff.1 hs).1;have hg:=(List.getElem?_eq_some_iff.1 hs).2;rw [List.take_succ_eq_append_getElem hi,List.all_append,h,hg]
 simp
theorem all_not {L:List T} {k:Nat} {s:T} (hs:L[k]?=some s) (h:nullB s=false):L.all nullB=false:=by
 rw [List.all_eq_false];exact ⟨s,List.mem_of_getElem? hs,by rw [h];decide⟩
theorem any_take2 {L:List T} {k:Nat} {s:T} (hs:L[k]?=some s) (h:(L.take k).any nullB=false):(L.take (k+1)).any nullB=nullB s:=by
 have hi:=(List.getElem?_eq_some_iff.1 hs).1;have hg:=(List.getElem?_eq_some_iff.1 hs).2;rw [List.take_succ_eq_append_getElem hi,List.any_append,h,hg]
 simp
theorem any_yes {L:List T} {k:Nat} {s:T} (hs:L[k]?=some s) (h:nullB s=true):L.any nullB=true:=List.any_eq_true.2 ⟨s,List.mem_of_getElem? hs,h⟩
theorem empty_all:∀ (n:Nat) (t:T),SizeOf.sizeOf t<n→∀ (d:Nat),RT d t→∀ (bl o:Nat) (a:Option Addr) (c:Nat) (w:World),NodeP w bl o t a c→Lie w (fun _=>True) a t.subs →
  Calls Try.prog 27 #[.pointer (some ⟨bl,o,none⟩)] w fun e w'=>e=.returned (.bool (nullB t))∧w=w'
 | 0,_,h,_,_,_,_,_,_,_,_,_=>absurd h (Nat.not_lt_zero _)
 | n+1,t,h,d,hR,bl,o,a,c,w,hP,hL=>by
  have hlen:=hL.len;have H0:=hid (And.intro hP (And.intro hL (empty_all n)));have HN:=hid h;have HR:=hid hR;obtain ⟨c0,-,-,-,-,c5,-,c7⟩:=hP.eight;obtain ⟨B,hB⟩:∃ B,nullB t=B:=⟨_,rfl⟩;rw [hB];have HB:=hid hB;have hk0:=P10.kinds hR;clear hL h hP hR hB
  by_cases h1:t.kind=1
  ·have HT:B=true:=by rw [← HB.out];exact null_1 HR.out h1
   subst HT;have k1:(t.kind == 1)=true:=by simpa using h1
   go_enter Try.func27,Try.ntmps27
   go_wp2_with fail;go_ret;exact ⟨rfl,rfl⟩
  have k1:(t.kind == 1)=false:=by simpa using h1
  by_cases h2:t.kind=2
  ·have HT:B=false:=by rw [← HB.out];exact null_2 HR.out h2
   subst HT;have k3:(t.kind == 3)=false:=by rw [h2];rfl
   have k4:(t.kind == 4)=false:=by rw [h2];rfl
   have k5:(t.kind == 5)=false:=by rw [h2];rfl
   clear h1 h2 hk0
   go_enter Try.func27,Try.ntmps27
   go_wp2_with fail;go_ret;exact ⟨rfl,rfl⟩
  by_cases h3:t.kind=3
  ·have HT:=hid (show B=t.subs.all nullB by rw [← HB.out];exact null_3 HR.out h3)
   have k3:(t.kind == 3)=true:=by simpa using h3
   clear h1 h2 h3 hk0
   go_enter Try.func27,Try.ntmps27
   go_wp2_with fail
   go_loopg [3,18] t.subs.length (fun gg s3 i wr=>∃ (k:Nat),i=.int .i64 k∧k+gg=t.subs.length∧(t.subs.take k).all nullB=true∧w=wr)
   case atStart=>exact ⟨0,rfl,by omega,rfl,rfl⟩
   case round =>
    obtain ⟨k,rfl,hk,hM,rfl⟩:=hrel
    by_cases hlt:k<t.subs.length
    ·have hlt':(k:Int)<t.subs.length:=by omega
     have i0:(0:Int)≤k:=by omega
     obtain ⟨s,hs⟩:∃ s,t.subs[k]?=some s:=⟨t.subs[k],List.getElem?_eq_getElem hlt⟩;obtain ⟨b2,off,a1,e1,rfl,-,hbl,-,L1,C1⟩:=H0.out.2.1.get hs;have N1:NodeP w b2 (off+k * 8) s a1 e1:=⟨hbl,C1⟩;have hsl:=sub_less hs;have hcall:=H0.out.2.2 s (by have:=HN.out;omega) d (sub_right HR.out.subs s (List.mem_of_getElem? hs)) b2 (off+k * 8) a1 e1 w N1 L1
     obtain ⟨Y,hY⟩:∃ Y,nullB s=Y:=⟨_,rfl⟩;rw [hY] at hcall;have HQ:=hid (And.intro hcall (And.intro hs (And.intro hM hY)));clear hcall hM N1 L1 C1 hs hY hbl;go_wp2_with fail;refine HQ.out.1.mono ?_;rintro e w2 ⟨rfl,rfl⟩
     cases Y
     ·have HF:B=false:=by rw [HT.out];exact all_not HQ.out.2.1 HQ.out.2.2.2
      subst HF;go_wp2_with fail;go_ret;exact ⟨rfl,rfl⟩
     ·go_wp2_with fail
      go_roundg (t.subs.length - (k+1))
      case measure=>omega
      case rel=>exact ⟨k+1,by go_num,by omega,by rw [all_take HQ.out.2.1 HQ.out.2.2.1];exact HQ.out.2.2.2,rfl⟩
    ·have hke:k=t.subs.length:=by omega
     subst hke;rw [List.take_length] at hM;have HF:B=true:=by rw [HT.out];exact hM
     subst HF;clear hM;go_wp2_with fail;go_ret;exact ⟨rfl,rfl⟩
  have k3:(t.kind == 3)=false:=by simpa using h3
  by_cases h4:t.kind=4
  ·have HT:=hid (show B=t.subs.any nullB by rw [← HB.out];exact null_4 HR.out h4)
   have k4:(t.kind == 4)=true:=by simpa using h4
   clear h1 h2 h3 h4 hk0
   go_enter Try.func27,Try.ntmps27
   go_wp2_with fail
   go_loopg [4,37] t.subs.length (fun gg s4 i wr=>∃ (k:Nat),i=.int .i64 k∧k+gg=t.subs.length∧(t.subs.take k).any nullB=false∧w=wr)
   case atStart=>exact ⟨0,rfl,by omega,rfl,rfl⟩
   case round =>
    obtain ⟨k,rfl,hk,hM,rfl⟩:=hrel
    by_cases hlt:k<t.subs.length
    ·have hlt':(k:Int)<t.subs.length:=by omega
     have i0:(0:Int)≤k:=by omega
     obtain ⟨s,hs⟩:∃ s,t.subs[k]?=some s:=⟨t.subs[k],List.getElem?_eq_getElem hlt⟩;obtain ⟨b2,off,a1,e1,rfl,-,hbl,-,L1,C1⟩:=H0.out.2.1.get hs;have N1:NodeP w b2 (off+k * 8) s a1 e1:=⟨hbl,C1⟩;have hsl:=sub_less hs;have hcall:=H0.out.2.2 s (by have:=HN.out;omega) d (sub_right HR.out.subs s (List.mem_of_getElem? hs)) b2 (off+k * 8) a1 e1 w N1 L1
     obtain ⟨Y,hY⟩:∃ Y,nullB s=Y:=⟨_,rfl⟩;rw [hY] at hcall;have HQ:=hid (And.intro hcall (And.intro hs (And.intro hM hY)));clear hcall hM N1 L1 C1 hs hY hbl;go_wp2_with fail;refine HQ.out.1.mono ?_;rintro e w2 ⟨rfl,rfl⟩
     cases Y
     ·go_wp2_with fail
      go_roundg (t.subs.length - (k+1))
      case measure=>omega
      case rel=>exact ⟨k+1,by go_num,by omega,by rw [any_take2 HQ.out.2.1 HQ.out.2.2.1];exact HQ.out.2.2.2,rfl⟩
     ·have HF:B=true:=by rw [HT.out];exact any_yes HQ.out.2.1 HQ.out.2.2.2
      subst HF;go_wp2_with fail;go_ret;exact ⟨rfl,rfl⟩
    ·have hke:k=t.subs.length:=by omega
     subst hke;rw [List.take_length] at hM;have HF:B=false:=by rw [HT.out];exact hM
     subst HF;clear hM;go_wp2_with fail;go_ret;exact ⟨rfl,rfl⟩
  have k4:(t.kind == 4)=false:=by simpa using h4
  have h5:t.kind=5:=by omega
  have k5:(t.kind == 5)=true:=by simpa using h5
  obtain ⟨u,hu,m0,hn⟩:=null_5 HR.out h5;rw [HB.out] at hn;obtain ⟨b2,off,a1,e1,rfl,-,hbl,-,L1,C1⟩:=H0.out.2.1.get (i:=0) (t:=u) (by rw [hu];rfl)
  have N1:NodeP w b2 off u a1 e1:=⟨hbl,fun j v hv=>by have:=C1 j v hv;rw [Nat.zero_mul,Nat.add_zero] at this;exact this⟩
  have hsl:=sub_less (a:=t) (i:=0) (t:=u) (by rw [hu];rfl)
  have hcall:=H0.out.2.2 u (by have:=HN.out;omega) d (sub_right HR.out.subs u (by rw [hu];simp)) b2 off a1 e1 w N1 L1
  have hl1:t.subs.length=1:=by rw [hu];rfl
  obtain ⟨Y,hY⟩:∃ Y,nullB u=Y:=⟨_,rfl⟩;rw [hY] at hcall hn;have HQ:=hid (And.intro hcall hn);clear hcall N1 L1 C1 hY hbl h1 h2 h3 h4 h5 hk0 hu hn;rw [hl1] at c7
  by_cases hm:t.mn=0
  ·have hm':(t.mn == 0)=true:=by simpa using hm
   have HF:B=true:=by rw [HQ.out.2,decide_eq_true hm,Bool.true_or]
   subst HF;clear hm
   go_enter Try.func27,Try.ntmps27
   go_wp2_with fail;go_ret;exact ⟨rfl,rfl⟩
  ·have hm':(t.mn == 0)=false:=by simpa using hm
   have HF:B=Y:=by rw [HQ.out.2,decide_eq_false hm,Bool.false_or]
   subst HF;clear hm
   go_enter Try.func27,Try.ntmps27
   go_wp2_with fail;refine HQ.out.1.mono ?_;rintro e w2 ⟨rfl,rfl⟩;go_wp2_with fail;go_ret;exact ⟨rfl,rfl⟩
theorem empty_any (t:T) (d:Nat) (hR:RT d t) (bl o:Nat) (a:Option Addr) (c:Nat) (w:World) (hP:NodeP w bl o t a c) (hL:Lie w (fun _=>True) a t.subs) :
  Calls Try.prog 27 #[.pointer (some ⟨bl,o,none⟩)] w fun e w'=>e=.returned (.bool (nullB t))∧w=w':=empty_all _ t (Nat.lt_succ_self _) d hR bl o a c w hP hL
end P12
namespace P10
open Go.RowKit Base Bytes P07 P08
open Sets (ST)
def rot (x:Int):Int:=Go.bits .or .u64 (IntKind.u64.wrap (x * 4294967296)) (x / 4294967296)
theorem bits32:Go.bits .and .u64 32 63=32:=by decide +kernel
theorem shl_32 (x:Int) (w:World):(Op.shift .shl .u64 x .u64 32).run Try.prog w=.ok (.int .u64 (IntKind.u64.wrap (x * 4294967296))) w:=by
 kernel_rfl
theorem shr_32 (x:Int) (w:World):(Op.shift .shr .u64 x .u64 32).run Try.prog w=.ok (.int .u64 (x.fdiv 4294967296)) w:=by
 kernel_rfl
theorem rot_any (x:Int) (w:World):Calls Try.prog 82 #[.int .u64 x,.int .i64 32] w fun e w'=>e=.returned (.int .u64 (rot x))∧w=w':=by
 have hb:=bits32;have h1:=shl_32 x;have h2:=shr_32 x;obtain ⟨r,hr⟩:∃ r,rot x=r:=⟨_,rfl⟩;have HR:=hid hr;rw [hr];clear hr
 go_enter Try.func82,Try.ntmps82
 go_wp2_with fail;go_ret;exact ⟨by rw [← HR.out];rfl,rfl⟩
def word (t:T):Nat→Int
 | 0=>IntKind.u64.wrap t.kind
 | 1=>t.set.x0
 | 2=>t.set.x1
 | 3=>t.set.x2
 | 4=>t.set.x3
 | 5=>IntKind.u64.wrap t.mn
 | 6=>IntKind.u64.wrap t.mx
 | _=>IntKind.u64.wrap t.subs.length
def stp (s v:Int):Int:=IntKind.u64.wrap (rot (IntKind.u64.wrap (Go.bits .xor .u64 s v * 11400714819323198485)) * 11400714819323198485)
def mixN (t:T) (s:Int):Nat→Int
 | 0=>s
 | k+1=>stp (mixN t s k) (word t k)
def mix (s:Int) (t:T):Int:=mixN t s 8
theorem word_run (t:T) (k:Nat) (h:k<8) (w:World):(Instr.index 103 (.agg #[.int .u64 (IntKind.u64.wrap t.kind),.int .u64 t.set.x0,.int .u64 t.set.x1,.int .u64 t.set.x2,.int .u64 t.set.x3,.int .u64 (IntKind.u64.wrap t.mn),.int .u64 (IntKind.u64.wrap t.mx),.int .u64 (IntKind.u64.wrap t.subs.length)]) (.int .i64 k)).run Try.prog w=.ok (.int .u64 (word t k)) w:=by
 match k,h with
 | 0,_=>simp [Instr.index,run_underlying (P:=Try.prog) Try.underlying103,asIntOf,go_sem];rfl
 | 1,_=>simp [Instr.index,run_underlying (P:=Try.prog) Try.underlying103,asIntOf,go_sem];rfl
 | 2,_=>simp [Instr.index,run_underlying (P:=Try.prog) Try.underlying103,asIntOf,go_sem];rfl
 | 3,_=>simp [Instr.index,run_underlying (P:=Try.prog) Try.underlying103,asIntOf,go_sem];rfl
 | 4,_=>simp [Instr.index,run_underlying (P:=Try.prog) Try.underlying103,asIntOf,go_sem];rfl
 | 5,_=>simp [Instr.index,run_underlying (P:=Try.prog) Try.underlying103,asIntOf,go_sem];rfl
 | 6,_=>simp [Instr.index,run_underlying (P:=Try.prog) Try.underlying103,asIntOf,go_sem];rfl
 | 7,_=>simp [Instr.index,run_underlying (P:=Try.prog) Try.underlying103,asIntOf,go_sem];rfl
theorem mixed_any (s:Int) (t:T) (bl o:Nat) (a:Option Addr) (c:Nat) (w:World) (h:NodeP w bl o t a c):Calls Try.prog 78 #[.int .u64 s,.pointer (some ⟨bl,o,none⟩)] w fun e w'=>e=.returned (.int .u64 (mix s t))∧Keep (fun _=>False) w w':=by
 obtain ⟨c0,c1,c2,c3,c4,c5,c6,c7⟩:=h.eight;have hwr:=word_run t;have HW:=hid hwr;clear hwr h
 go_enter Try.func78,Try.ntmps78
 go_upto_region 1 with fail
 go_quiet (fail)
 go_wp2_with fail;have q0:=hid ((Keep.refl (fun _=>False) w).drewN nq)
 generalize w.drewN nq=W at *
 go_loopg [0,49] 8 (fun gg x i wr=>∃ k:Nat,i=.int .i64 k∧k+gg=8∧x=.int .u64 (mixN t s k)∧wr=W)
 case atStart=>exact ⟨0,rfl,by omega,rfl,rfl⟩
 case round =>
  obtain ⟨k,rfl,hk,hx,rfl⟩:=hrel;have k0:(0:Int)≤k:=by omega
  by_cases hlt:k<8
  ·have hlt':(k:Int)<8:=by omega
   have hw:=HW.out k hlt;obtain ⟨S,hS⟩:∃ S,mixN t s k=S:=⟨_,rfl⟩;obtain ⟨V,hV⟩:∃ V,word t k=V:=⟨_,rfl⟩;rw [hS] at hx;rw [hV] at hw;subst hx;have HN:=hid (show mixN t s (k+1)=stp S V by rw [mixN,hS,hV])
   clear hS hV;go_wp2_with fail;refine (rot_any _ _).mono ?_;rintro e w2 ⟨rfl,rfl⟩;go_wp2_with fail
   go_roundg (8 - (k+1))
   case measure=>omega
   case rel=>exact ⟨k+1,by go_num,by omega,by rw [HN.out];rfl,rfl⟩
  ·have hke:k=8:=by omega
   subst hke;rw [hx];go_wp2_with fail;go_ret;exact ⟨rfl,q0.out⟩
end P10
namespace P12
open Go.RowKit Base Bytes P07 P08 P09 P10
open Sets (ST)
theorem or_128:∀ m:Nat,m<256→Go.bits .or .u8 (m:Int) 128=((m % 128+128:Nat):Int):=by decide +kernel
theorem b_or (n:Nat):bv (UInt8.ofNat (n % 128+128))=.int .u8 (Go.bits .or .u8 (IntKind.u8.wrap (n:Int)) 128):=by
 have e:IntKind.u8.wrap (n:Int)=((n % 256:Nat):Int):=by rw [IntKind.wrap_u8];omega
 rw [e,or_128 _ (by omega)]
 unfold bv;rw [UInt8.toNat_ofNat']
 congr 2
 omega
theorem b_last (n:Nat) (h:n<128):bv (UInt8.ofNat n)=.int .u8 (n:Int):=by
 unfold bv;rw [UInt8.toNat_ofNat']
 congr 2
 omega
theorem u64_wrap (x:Int):IntKind.u64.wrap x=(u64 x:Int):=by
 rw [IntKind.wrap_u64];unfold u64;omega
structure Kw (w:World) (v:Value) (W:World) (u:Value) (K:List UInt8):Prop where
 row:BL W u K
 keep:Keep (fun b=>v.ownBlock=some b) w W
 own:∀ g,u.ownBlock=some g→v.ownBlock=some g∨w.heap.size≤g
theorem Kw.push {w:World} {v:Value} {W:World} {u:Value} {K:List UInt8} (h:Kw w v W u K) (x:UInt8) (hl:K.length<2097152) (ty:TypeId) :
  ∃ u' W',(Builtin.append_ #[91,91] ty #[u,.slice (some ⟨W.heap.size,0,none⟩) 1 1]).run Try.prog (W.alloc (.cells #[bv x] 5))=.ok u' W'∧Kw w v W' u' (K++[x]):=by
 obtain ⟨u',W',hr,g1,g2,g3⟩:=h.row.push x hl ty;refine ⟨u',W',hr,g1,h.keep.next g2 fun i hi hlt=>?_,fun g hg=>?_⟩
 ·rcases h.own i hi with k | k
  ·exact k
  ·omega
 ·rcases g3 g hg with k | k
  ·exact h.own g k
  ·exact .inr (Nat.le_trans h.keep.size k)
theorem Kw.stay {w:World} {v:Value} {W W':World} {u:Value} {K:List UInt8} (h:Kw w v W u K) (q:Keep (fun _=>False) W W'):Kw w v W' u K :=
 ⟨h.row.keep q (fun _ _ h=>h),h.keep.next q (fun _ h _=>h.elim),h.own⟩
theorem u64_lt (x:Int):u64 x<18446744073709551616:=by unfold u64;omega
theorem wds_lt {t:T} (h:Rs t) (hl:t.subs.length≤9223372036854775807):∀ n ∈ wds t,n<18446744073709551616:=by
 obtain ⟨d,hd,-⟩:=h;have o:=ok_of hd;intro n hn;unfold wds at hn
 simp only [List.mem_cons,List.not_mem_nil,or_false] at hn
 rcases hn with e | e | e | e | e | e | e | e <;> rw [e]
 ·exact u64_lt _
 ·exact u64_lt _
 ·exact u64_lt _
 ·exact o.h0
 ·exact o.h1
 ·exact o.h2
 ·exact o.h3
 ·omega
theorem wds_len (t:T):(wds t).length=8:=rfl
theorem keyW_take {l:List Nat} {k n:Nat} (h:l[k]?=some n):keyW (l.take (k+1))=keyW (l.take k)++vi n:=by
 rw [List.take_add_one,h];unfold keyW;rw [Option.toList_some,List.flatMap_append,List.flatMap_singleton]
theorem keyL_take {l:List T} {k:Nat} {t:T} (h:l[k]?=some t):keyL (l.take (k+1))=keyL (l.take k)++keyT t:=by
 rw [List.take_add_one,h,Option.toList_some,keyL_append,keyL,keyL,List.append_nil]
theorem keyW_len (l:List Nat) (h:∀ n ∈ l,n<18446744073709551616):(keyW l).length≤10 * l.length:=by
 induction l with
 | nil=>simp [keyW]
 | cons n l ih =>
  have:=vi_len n (h n (by simp))
  have:=ih fun m hm=>h m (by simp [hm])
  unfold keyW at *;rw [List.flatMap_cons,List.length_append,List.length_cons];omega
theorem wds_run (t:T) (k:Nat) (n:Nat) (h:(wds t)[k]?=some n) (w:World):(Instr.index 103 (.agg #[.int .u64 (u64 t.kind),.int .u64 (u64 t.mn),.int .u64 (u64 t.mx),.int .u64 t.set.x0,.int .u64 t.set.x1,.int .u64 t.set.x2,.int .u64 t.set.x3,.int .u64 t.subs.length]) (.int .i64 k)).run Try.prog w=.ok (.int .u64 n) w:=by
 have hk:k<8:=by
  have:=(List.getElem?_eq_some_iff.1 h).1;rw [wds_len] at this;exact this
 match k,hk with
 | 0,_=>cases h;simp [Instr.index,run_underlying (P:=Try.prog) Try.underlying103,asIntOf,go_sem]
 | 1,_=>cases h;simp [Instr.index,run_underlying (P:=Try.prog) Try.underlying103,asIntOf,go_sem]
 | 2,_=>cases h;simp [Instr.index,run_underlying (P:=Try.prog) Try.underlying103,asIntOf,go_sem]
 | 3,_=>cases h;simp [Instr.index,run_underlying (P:=Try.prog) Try.underlying103,asIntOf,go_sem]
 | 4,_=>cases h;simp [Instr.index,run_underlying (P:=Try.prog) Try.underlying103,asIntOf,go_sem]
 | 5,_=>cases h;simp [Instr.index,run_underlying (P:=Try.prog) Try.underlying103,asIntOf,go_sem]
 | 6,_=>cases h;simp [Instr.index,run_underlying (P:=Try.prog) Try.underlying103,asIntOf,go_sem]
 | 7,_=>cases h;simp [Instr.index,run_underlying (P:=Try.prog) Try.underlying103,asIntOf,go_sem]
theorem shr_7 (n:Nat) (w:World):(Op.shift .shr .u64 (n:Int) .u64 7).run Try.prog w=.ok (.int .u64 ((n / 128:Nat):Int)) w:=by
 have h:(Op.shift .shr .u64 (n:Int) .u64 7).run Try.prog w=.ok (.int .u64 ((n:Int).fdiv 128)) w:=by kernel_rfl
 rw [h,Int.fdiv_eq_ediv_of_nonneg _ (by omega)]
 congr 2
theorem len_cntL12:∀ L:List T,L.length≤cntL L
 | []=>by rw [cntL];exact Nat.le_refl _
 | t::L=>by
  have:=len_cntL12 L;have:=cnt_eq t;rw [cntL,List.length_cons];omega
mutual
theorem keyT_len:∀ t:T,Rs t→cnt t≤9223372036854775807→(keyT t).length≤80 * cnt t
 | .nd k s mn mx l,h,hc=>by
  have e:(T.nd k s mn mx l).subs=l:=rfl;have e1:=cnt_eq (T.nd k s mn mx l);rw [e] at e1;have h4:=len_cntL12 l;have h0:(T.nd k s mn mx l).subs.length≤9223372036854775807:=by rw [e];omega
  have h1:=keyW_len _ (wds_lt h h0);rw [wds_len] at h1;have h2:=keyL_len l h.sub (by omega)
  rw [keyT_eq,List.length_append,e];omega
theorem keyL_len:∀ l:List T,(∀ t ∈ l,Rs t)→cntL l≤9223372036854775807→(keyL l).length≤80 * cntL l
 | [],_,_=>by rw [keyL];simp
 | t::l,h,hc=>by
  rw [cntL] at hc;have h1:=keyT_len t (h t (by simp)) (by omega)
  have h2:=keyL_len l (fun x hx=>h x (List.mem_cons_of_mem _ hx)) (by omega)
  rw [keyL,List.length_append,cntL];omega
end
theorem Kw.after {w:World} {v:Value} {W:World} {u:Value} {K:List UInt8} {W2:World} {u2:Value} {K2:List UInt8} (h:Kw w v W u K) (h2:Kw W u W2 u2 K2):Kw w v W2 u2 K2 :=
 ⟨h2.row,h.keep.next h2.keep fun i hi hlt=>by
  rcases h.own i hi with k | k
  ·exact k
  ·omega,fun g hg=>by
  rcases h2.own g hg with k | k
  ·exact h.own g k
  ·exact .inr (Nat.le_trans h.keep.size k)⟩
end P12
namespace P12
open Go.RowKit Base Bytes P07 P08 P09 P10
open Sets (ST)
theorem keyed_all:∀ (m:Nat) (t:T),SizeOf.sizeOf t<m→Rs t→∀ (B:List UInt8) (v:Value) (E:Nat→Prop) (bl o:Nat) (a:Option Addr) (c:Nat) (w:World),B.length+80 * cnt t≤2000000→BL w v B→(∀ k,E k→k<w.heap.size∧v.ownBlock≠some k)→E bl→NodeP w bl o t a c→Lie w E a t.subs →
  Calls Try.prog 53 #[v,.pointer (some ⟨bl,o,none⟩)] w fun e w'=>∃ v',e=.returned v'∧Kw w v w' v' (B++keyT t)
 | 0,_,h,_,_,_,_,_,_,_,_,_,_,_,_,_,_,_=>absurd h (Nat.not_lt_zero _)
 | m+1,t,h,hR,B,v,E,bl,o,a,c,w,hB,hV,hE,hb,hP,hL=>by
  have hlen:=hL.len;have H0:=hid (And.intro hP (And.intro hL (And.intro hE (And.intro hb (keyed_all m)))));have HR:=hid hR;have HN:=hid h;have HB:=hid hB;obtain ⟨c0,c1,c2,c3,c4,c5,c6,c7⟩:=hP.eight;have e1:=u64_wrap t.kind;have e2:=u64_wrap t.mn;have e3:=u64_wrap t.mx;have e4:IntKind.u64.wrap t.subs.length=t.subs.length:=wrap_lt _ (by omega)
  have k0:Kw w v w v B:=⟨hV,Keep.refl _ w,fun g hg=>.inl hg⟩
  have HW:=hid (And.intro (wds_run t) k0);clear hV hE hb hP hL hR h k0 hB
  go_enter Try.func53,Try.ntmps53
  go_upto_region 1 with fail
  go_quiet (fail)
  go_wp2_with fail;have q0:=hid ((Keep.refl (fun _=>False) w).drewN nq)
  generalize w.drewN nq=W at *;have hR2:=wds_lt HR.out hlen
  go_loopg [0,6,50] 8 (fun gg u x i wr=>∃ (k:Nat) (y:Value),y=u∧i=.int .i64 k∧k+gg=8∧Kw w v wr y (B++keyW ((wds t).take k)))
  case atStart=>exact ⟨0,_,rfl,rfl,by omega,by rw [List.take_zero];unfold keyW;rw [List.flatMap_nil,List.append_nil];exact HW.out.2.stay q0.out⟩
  case round =>
   obtain ⟨k,y,rfl,rfl,hk,hK⟩:=hrel;have k0:(0:Int)≤k:=by omega
   by_cases hlt:k<8
   ·have hlt':(k:Int)<8:=by omega
    obtain ⟨n,hn⟩:∃ n,(wds t)[k]?=some n:=⟨(wds t)[k]'(by rw [wds_len];exact hlt),List.getElem?_eq_getElem _⟩
    have hw:=HW.out.1 k n hn;have hn8:=hR2 n (List.mem_of_getElem? hn);have hKt:=keyW_take hn;have hln:=keyW_len ((wds t).take (k+1)) (fun x hx=>hR2 x (List.mem_of_mem_take hx))
    have hlt8:((wds t).take (k+1)).length≤8:=by rw [List.length_take,wds_len];omega
    have HQ:=hid (And.intro hK (And.intro hKt hln));clear hK hKt hln hn;go_wp2_with fail
    go_loopg [0,6] n (fun gg u x wr=>∃ (P:List UInt8),x=.int .u64 (gg:Nat)∧Kw w v wr u P∧P++vi gg=B++keyW ((wds t).take (k+1)))
    case atStart=>exact ⟨_,rfl,HQ.out.1,by rw [HQ.out.2.1,List.append_assoc]⟩
    case round =>
     obtain ⟨P,rfl,hK,hP⟩:=hrel;have hPl:P.length+(vi gk).length≤2000100:=by
      have:=congrArg List.length hP;rw [List.length_append,List.length_append] at this;have:=HQ.out.2.2;have:=HB.out;omega
     by_cases hbig:128≤gk
     ·have hbig':(128:Int)≤gk:=by omega
      obtain ⟨u',W',hrun,hK'⟩:=hK.push (UInt8.ofNat (gk % 128+128)) (by omega) 91
      rw [b_or] at hrun;rw [vi_big hbig] at hP;have hsh:=shr_7 gk;have HP:=hid (And.intro hK' hP);clear hK' hP hK;go_wp2_with (at_builtin;refine Lib.wpList_append_run _ rfl _ _ _ _ rfl _ _ rfl rfl _ _ hrun ?_)
      go_roundg (gk / 128)
      case measure=>omega
      case rel=>exact ⟨_,rfl,HP.out.1,by rw [← HP.out.2];simp⟩
     ·have hsm:(gk:Int)<128:=by omega
      obtain ⟨u',W',hrun,hK'⟩:=hK.push (UInt8.ofNat gk) (by omega) 91
      rw [b_last gk (by omega)] at hrun
      rw [vi_small (by omega)] at hP
      have HP:=hid (And.intro hK' hP);clear hK' hP hK;go_wp2_with (at_builtin;refine Lib.wpList_append_run _ rfl _ _ _ _ rfl _ _ rfl rfl _ _ hrun ?_)
      go_roundg (8 - (k+1))
      case measure=>omega
      case rel=>exact ⟨k+1,_,rfl,by go_num,by omega,by rw [← HP.out.2];exact HP.out.1⟩
   ·have hke:k=8:=by omega
    subst hke;have hK8:Kw w v wr y (B++keyW (wds t)):=by
     rw [List.take_of_length_le (by rw [wds_len];exact Nat.le_refl _)] at hK
     exact hK
    have HQ:=hid hK8;clear hK hK8;have hP8:=H0.out.1.keep HQ.out.keep (H0.out.2.2.1 bl H0.out.2.2.2.1).2;obtain ⟨-,-,-,-,-,-,-,d7⟩:=hP8.eight;clear hP8;go_wp2_with fail
    go_loopg [0,7,74] t.subs.length (fun gg u x i wz=>∃ (k:Nat) (y:Value),y=u∧i=.int .i64 k∧k+gg=t.subs.length∧Kw w v wz y (B++keyW (wds t)++keyL (t.subs.take k)))
    case atStart=>exact ⟨0,_,rfl,rfl,by omega,by rw [List.take_zero,keyL,List.append_nil];exact HQ.out⟩
    case round =>
     obtain ⟨k,y,rfl,rfl,hk,hK⟩:=hrel;have k0:(0:Int)≤k:=by omega
     by_cases hlt:k<t.subs.length
     ·have hlt':(k:Int)<t.subs.length:=by omega
      obtain ⟨s,hs⟩:∃ s,t.subs[k]?=some s:=⟨t.subs[k],List.getElem?_eq_getElem hlt⟩;have hLz:Lie wr E a t.subs:=H0.out.2.1.keep hK.keep (fun b hb=>(H0.out.2.2.1 b hb).2)
      obtain ⟨b2,off,a1,e1,rfl,hE2,hbl,-,L1,C1⟩:=hLz.get hs;have N1:NodeP wr b2 (off+k * 8) s a1 e1:=⟨hbl,C1⟩;have hsl:=sub_less hs;have hcs:=cntL_take hs;have hpre:=cntL_pre t.subs (k+1);have hte:cnt t=1+cntL t.subs:=cnt_eq t;have hb0:=HB.out;have hkl:=keyL_len (t.subs.take k) (fun x hx=>HR.out.sub x (List.mem_of_mem_take hx)) (by have:=cntL_pre t.subs k;omega)
      have hwl:=keyW_len (wds t) hR2;rw [wds_len] at hwl;have hcall:=H0.out.2.2.2.2 s (by have:=HN.out;omega) (HR.out.sub s (List.mem_of_getElem? hs)) _ y E b2 (off+k * 8) a1 e1 wr (by rw [List.length_append,List.length_append];omega) hK.row (fun j hj=>⟨Nat.lt_of_lt_of_le (H0.out.2.2.1 j hj).1 hK.keep.size,fun e=>by rcases hK.own j e with k | k;exact (H0.out.2.2.1 j hj).2 k;have:=(H0.out.2.2.1 j hj).1;omega⟩) hE2 N1 L1
      have hKL:=keyL_take hs;have hPz:=H0.out.1.keep hK.keep (H0.out.2.2.1 bl H0.out.2.2.2.1).2;obtain ⟨-,-,-,-,-,-,-,d7'⟩:=hPz.eight;have HQ2:=hid (And.intro hcall (And.intro hKL hK));clear hcall hKL hK N1 L1 C1 hs hcs hpre hte hb0 hkl hwl hPz hLz hE2;go_wp2_with fail;refine HQ2.out.1.mono ?_;rintro e w2 ⟨u2,rfl,hu2⟩;have HK2:=hid (HQ2.out.2.2.after hu2);clear hu2;go_wp2_with fail
      go_roundg (t.subs.length - (k+1))
      case measure=>omega
      case rel =>
       have e9:B++keyW (wds t)++keyL (t.subs.take (k+1))=B++keyW (wds t)++keyL (t.subs.take k)++keyT s:=by rw [HQ2.out.2.1,← List.append_assoc]
       refine ⟨k+1,u2,rfl,by go_num,by omega,?_⟩
       rw [e9];exact HK2.out
     ·have hke:k=t.subs.length:=by omega
      subst hke;rw [List.take_length] at hK;have HQ2:=hid hK;clear hK;go_wp2_with fail;go_ret;exact ⟨_,rfl,by rw [keyT_eq,← List.append_assoc];exact HQ2.out⟩
theorem keyed_any (t:T) (hR:Rs t) (B:List UInt8) (v:Value) (E:Nat→Prop) (bl o:Nat) (a:Option Addr) (c:Nat) (w:World) (hl:B.length+80 * cnt t≤2000000) (hv:BL w v B) (hE:∀ k,E k→k<w.heap.size∧v.ownBlock≠some k) (hb:E bl) (hP:NodeP w bl o t a c) (hL:Lie w E a t.subs) :
  Calls Try.prog 53 #[v,.pointer (some ⟨bl,o,none⟩)] w fun e w'=>∃ v',e=.returned v'∧Kw w v w' v' (B++keyT t) :=
 keyed_all _ t (Nat.lt_succ_self _) hR B v E bl o a c w hl hv hE hb hP hL
end P12
end Go.Proofs.Ytlmfbchgkjgljaa

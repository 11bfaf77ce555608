/- Layer 11: the law's own text. -/
import Derived.Test.YthcjfgfbeollpaaDoorKB34
import Derived.Test.YthcjfgfbeollpaaDoorKB44
set_option maxRecDepth 100000
set_option maxHeartbeats 32000000
open Go.Lib (hid)
namespace Go.Proofs.YthcjfgfbeollpaaDoor
namespace P11
open Go.RowKit Base Bytes P07 P08 P09 P10
open Sets (ST)
theorem text11_any {F:Nat} {l:List UInt8} {t:T} (h:parse F l=.inr t) (hF:l.length+2≤F) (hl:l.length≤100000000) (w:World) :
  Calls Tryd.prog 8 #[P07.str l] w (Gives w (fun _=>False) t):=by
 have r0:Rb w w.heap.size (w.alloc (.cells nzeros 27)):=⟨At.new w nzeros 27,(Keep.refl (fun _=>False) w).alloc _,Nat.le_refl _⟩
 have HP:=hid (fun W=>parse_right9 h hF hl W)
 have HR:=hid r0;clear r0 h hF hl
 go_enter Tryd.func8,Tryd.ntmps8
 go_upto_region 1 with fail;generalize (w.alloc (.cells nzeros 27))=W0 at *;go_wp2_with fail;refine (HP.out W0).mono ?_;rintro e w1 ⟨a,c,rfl,hle,hlie,q1⟩;have hsz:=HR.out.out.lt;have hsz1:=q1.size;have R1:=hid (HR.out.next q1);have hlie2:Lie w1 (fun k=>(False∨w.heap.size≤k)∧k≠w.heap.size) a t.subs:=hlie.mono fun k hk=>⟨.inr (by omega),by omega⟩
 have b1:=At.new w1 (ncells t a c) 27;have q2:=(Keep.refl (fun _=>False) w1).alloc (.cells (ncells t a c) 27)
 have H2:=hid (And.intro (R1.out.next q2) (And.intro b1 (And.intro (hlie2.keepF q2) hle)));have hlt:w.heap.size<w1.heap.size:=by omega
 clear hsz hsz1 hlie hlie2 b1 q1 q2 hle;go_upto_region 2 with fail;generalize (w1.alloc (.cells (ncells t a c) 27))=W1 at *;generalize w1.heap.size=n1 at *;obtain ⟨⟨x0,x1,x2,x3,x4,x5,x6,x7⟩,-⟩:=cells8 H2.out.2.1;obtain ⟨⟨d0,d1,d2,d3,d4,d5,d6,d7⟩,f0,f1,f2,f3,f4,f5,f6,f7⟩:=cells8 H2.out.1.out;have hlt2:=H2.out.1.out.lt;go_wp2_with fail
 change bodyPost _ _ _ _ _ (putNd W1 w.heap.size 0 t a c)
 have hP:=H2.out.1.put t a c;have hG:=H2.out.1.gives (ok:=fun _=>False) (t:=t) H2.out.2.2.2 H2.out.2.2.1
 generalize (putNd W1 w.heap.size 0 t a c)=W9 at hP hG ⊢;obtain ⟨⟨e0,e1,e2,e3,e4,e5,e6,e7⟩,-⟩:=cells8 hP.1;exact bodyPost_ret (v:=nodeV t a c) (by simp [results,Tryd.results8,go_sem,e0,e1,e2,e3,e4,e5,e6,e7]) rfl hG
end P11
end Go.Proofs.YthcjfgfbeollpaaDoor

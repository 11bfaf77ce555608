/- The document's Simple (layer 10), of right expressions. -/
import Derived.Test.YtlmfbchgkjgljaaGreatKX49
import Derived.Test.YtlmfbchgkjgljaaGreatKX38
import Derived.Test.YtlmfbchgkjgljaaGreatKX29
import Derived.Test.YtlmfbchgkjgljaaGreatKX27
import Derived.Test.YtlmfbchgkjgljaaGreatKX30
import Derived.Test.YtlmfbchgkjgljaaGreatKX25
import Derived.Test.YtlmfbchgkjgljaaGreatKX28
import Derived.Test.YtlmfbchgkjgljaaGreatKX33
set_option maxRecDepth 100000
set_option maxHeartbeats 32000000
open Go.Lib (hid)
namespace Go.Proofs.YtlmfbchgkjgljaaGreat
namespace P10
open Go.RowKit Base Bytes P07 P08
open Sets (ST)
def FSimpOk (t:T):Prop:=∀ (d:Nat),RT d t→cnt t≤4100→∀ (a:Option Addr) (c:Nat) (ok:Nat→Prop) (w:World),Lie w ok a t.subs→t.subs.length≤c →
 Calls Tryz.prog 15 #[nodeV t a c] w (Gives w ok (simT t))
theorem end8 {w wr:World} {n:Nat} {ok:Nat→Prop} {tt t:T} {a:Option Addr} {c:Nat} (h:Rb w n wr) (hT:tt=t) (hc:t.subs.length≤c) (hl:Lie wr (fun k=>(ok k∨w.heap.size≤k)∧k≠n) a t.subs) :
  At (put8 wr n (.int .i64 t.kind) (.int .u64 t.set.x0) (.int .u64 t.set.x1) (.int .u64 t.set.x2) (.int .u64 t.set.x3) (.int .i64 t.mn) (.int .i64 t.mx) (.slice a t.subs.length c)) n 27 (ncells t a c)
  ∧ Gives w ok tt (.returned (nodeV t a c)) (put8 wr n (.int .i64 t.kind) (.int .u64 t.set.x0) (.int .u64 t.set.x1) (.int .u64 t.set.x2) (.int .u64 t.set.x3) (.int .i64 t.mn) (.int .i64 t.mx) (.slice a t.subs.length c)):=by
 subst hT;have h1:=(h.put tt a c).1;have h2:=h.gives (ok:=ok) (t:=tt) hc hl;have e:putNd wr n 0 tt a c=put8 wr n (.int .i64 tt.kind) (.int .u64 tt.set.x0) (.int .u64 tt.set.x1) (.int .u64 tt.set.x2) (.int .u64 tt.set.x3) (.int .i64 tt.mn) (.int .i64 tt.mx) (.slice a tt.subs.length c):=rfl;rw [e] at h1 h2;exact ⟨h1,h2⟩
theorem fsimple_step (n:Nat) (ih:∀ t:T,SizeOf.sizeOf t<n→FSimpOk t) (t:T) (hsz:SizeOf.sizeOf t<n+1):FSimpOk t:=by
 intro d hR hB a c ok w hL hc;obtain ⟨tt,htt⟩:∃ tt,simT t=tt:=⟨_,rfl⟩;rw [htt];have b0:=(At.new w (ncells t a c) 27).alloc (.cells nzeros 27);have r0:Rb w (w.heap.size+1) ((w.alloc (.cells (ncells t a c) 27)).alloc (.cells nzeros 27)):=by
  refine ⟨?_,((Keep.refl (fun _=>False) w).alloc _).alloc _,by omega⟩
  have:=At.new (w.alloc (.cells (ncells t a c) 27)) nzeros 27;rw [show (w.alloc (.cells (ncells t a c) 27)).heap.size=w.heap.size+1 from by simp] at this
  exact this
 have hlen:t.subs.length≤4100:=by
  have h1:=P10.len_cntL t.subs;rw [cnt_eq] at hB;omega
 have hli:(t.subs.length:Int)≤4100:=by omega
 have HTT:=hid htt;have H0:=hid (And.intro r0 (And.intro b0 (And.intro (hL.under.keepF r0.keep) (And.intro hR (And.intro hc (And.intro ih (And.intro hsz hB)))))));clear r0 b0 hL htt hR hc hsz hB hlen
 go_enter Tryz.func15,Tryz.ntmps15
 go_upto_region 1 with fail;have hs0:((w.alloc (.cells (ncells t a c) 27)).alloc (.cells nzeros 27)).heap.size=w.heap.size+2:=by simp
 generalize ((w.alloc (.cells (ncells t a c) 27)).alloc (.cells nzeros 27))=W0 at *;have HS0:=hid hs0;clear hs0;go_wp2_with fail
 go_loopg [3,4] t.subs.length (fun gg u i wr=>∃ k:Nat,i=.int .i64 k∧k+gg=t.subs.length∧OT wr (fun b=>(ok b∧b<w.heap.size)∨w.heap.size+2≤b) u ((t.subs.take k).map simT)∧Own (w.heap.size+2) u∧Keep (fun _=>False) W0 wr)
 case atStart=>exact ⟨0,rfl,by omega,OT.nil _ _,Own.nil _,Keep.refl _ _⟩
 case round =>
  obtain ⟨k,rfl,hk,hrow,hown,hq⟩:=hrel;have k0:(0:Int)≤k:=by omega
  obtain ⟨⟨y0,y1,y2,y3,y4,y5,y6,y7⟩,-⟩:=cells8 (H0.out.2.1.keep hq (fun h=>h))
  by_cases hlt:k<t.subs.length
  ·have hlt':(k:Int)<t.subs.length:=by omega
   obtain ⟨s,hs⟩:∃ s,t.subs[k]?=some s:=⟨t.subs[k],List.getElem?_eq_getElem hlt⟩;obtain ⟨bl,off,a1,c1,ea,-,-,le1,L1,C1⟩:=(H0.out.2.2.1.keepF hq).get hs;obtain ⟨z0,z1,z2,z3,z4,z5,z6,z7⟩:=ncell C1;have hIH:=H0.out.2.2.2.2.2.1 s (by have:=sub_less hs;have:=H0.out.2.2.2.2.2.2.1;omega) d (sub_right H0.out.2.2.2.1.subs s (List.mem_of_getElem? hs)) (by have:=cntL_le hs;have h2:=H0.out.2.2.2.2.2.2.2;rw [cnt_eq t] at h2;omega) a1 c1 (fun b=>ok b∧b<w.heap.size) wr L1 le1
   have hol:∀ g,u3.ownBlock=some g→g<wr.heap.size:=fun g hg=>by
    obtain ⟨X,⟨h1,-⟩,-⟩:=hrow
    rcases h1.2 with ⟨rfl,-⟩ | ⟨g',cap,cur,rfl,hb,hc,r⟩
    ·cases hg
    ·have h2:At wr g' 27 cur:=hc
     injection hg with hg;rw [← hg];exact h2.lt
   have J:=hid (And.intro hrow (And.intro hown (And.intro hq (And.intro hs (And.intro hol hIH)))));have ea':a=some ⟨bl,off,none⟩:=ea;clear hrow hown hq hs L1 C1 le1 hIH ea hol;subst ea';go_wp2_with fail;refine J.out.2.2.2.2.2.mono ?_;rintro e w2 ⟨⟨v,rfl,ra,rc,rfl,hle,hlie⟩,q2⟩;have hsz2:=q2.size;have hsz3:=(J.out.2.2.1).size;have hsz0:=HS0.out
   obtain ⟨v',w9,hrun,g1,g2,g3⟩:=(J.out.1.keep q2 (fun _ _ h=>h)).push (simT s) ra rc hle (hlie.mono fun b hb=>⟨by
     rcases hb with hb | hb
     ·exact .inl hb
     ·exact .inr (by omega),fun e=>by
     have h1:=J.out.2.1 b e;have h2:=J.out.2.2.2.2.1 b e
     rcases hb with hb | hb
     ·omega
     ·omega⟩) (by rw [List.length_map,List.length_take];omega) (fun g hg=>.inr (by omega)) 25
   have H9:=hid (show OT w9 (fun b=>(ok b∧b<w.heap.size)∨w.heap.size+2≤b) v' ((t.subs.take (k+1)).map simT)∧Own (w.heap.size+2) v'∧Keep (fun _=>False) W0 w9 from by
    refine ⟨?_,J.out.2.1.next (n1:=w2.heap.size) (by omega) g3,(J.out.2.2.1.trans q2).next g2 (fun i hi hl=>by have:=J.out.2.1 i hi;omega)⟩
    have e4:(t.subs.take (k+1)).map simT=(t.subs.take k).map simT++[simT s]:=by
     rw [List.take_add_one,J.out.2.2.2.1,List.map_append]
     rfl
    rw [e4]
    exact g1)
   clear g1 g2 g3 hle hlie q2 hsz2 hsz3 hsz0 y0 y1 y2 y3 y4 y5 y6 y7 z0 z1 z2 z3 z4 z5 z6 z7;obtain ⟨X,hX⟩:∃ X,simT s=X:=⟨_,rfl⟩;rw [hX] at hrun ⊢;clear hX;go_wp2_with (at_builtin;refine Lib.wpList_append_run _ rfl _ _ _ _ rfl _ _ rfl rfl _ _ hrun ?_);clear hrun;go_wp2_with fail
   go_roundg (t.subs.length - (k+1))
   case measure=>omega
   case rel=>exact ⟨k+1,by go_num,by omega,H9.out⟩
  ·have hke:k=t.subs.length:=by omega
   subst hke;rw [List.take_length] at hrow;have hall:∀ m ∈ t.subs.map simT,RT d m:=fun m hm=>by
    obtain ⟨u,hu,rfl⟩:=List.mem_map.1 hm;exact (sim_ok u d (sub_right H0.out.2.2.2.1.subs u hu)).1.rt
   have hcl:cntL (t.subs.map simT)≤8100:=by
    have h1:=cntL_map (f:=simT) t.subs fun u hu=>(sim_ok u d (sub_right H0.out.2.2.2.1.subs u hu)).1.cnt
    have h3:=H0.out.2.2.2.2.2.2.2;rw [cnt_eq t] at h3;omega
   obtain ⟨fa,fc,hu,hfc,hlf⟩:=hrow.form
   have hlieR:=hlf.mono (ok':=fun b=>(ok b∨w.heap.size≤b)∧b≠w.heap.size+1) (fun b hb=>by
    rcases hb with hb | hb
    ·exact ⟨.inl hb.1,by omega⟩
    ·exact ⟨.inr (by omega),by omega⟩)
   have hsets:=sets_ok (k:=4) (L:=t.subs.map simT) (d:=d) hall;have J:=hid (And.intro (H0.out.1.next hq) (And.intro hlieR (And.intro hcl (And.intro hall (And.intro hsets (And.intro (H0.out.2.2.1.keepF hq) (H0.out.2.1.keep hq (fun h=>h))))))))
   rw [List.length_map] at hu;subst hu;clear hrow hq hall hcl hlieR hsets hown hlf hfc;have hfs:True:=trivial;go_upto_region 6 with fail
   by_cases h3:t.kind=3
   ·have hb3:(t.kind == 3)=true:=by simpa using h3
    have HT:=hid (show tt=catT (t.subs.map simT) by rw [← HTT.out,simT_eq,if_pos h3])
    have HC:=hid (fcat_any (t.subs.map simT) fa fc (fun b=>(ok b∨w.heap.size≤b)∧b≠w.heap.size+1) wr J.out.2.1 (by have:=J.out.2.2.1;omega))
    rw [List.length_map] at HC;clear hfs;go_wp2_with fail;refine HC.out.mono ?_;rintro e w4 ⟨⟨v,rfl,ja,jc,rfl,hle,hlie⟩,q4⟩;have R4:=hid (J.out.1.next q4);have hn2:=J.out.1.out.lt;have hn3:=J.out.1.keep.size;have HE:=hid (And.intro hle (lie_of (w:=w) (ok:=ok) (n:=w.heap.size+1) hlie (by omega) (by omega) (fun k h=>h)))
    clear q4 hlie hle hn2 hn3;generalize catT (t.subs.map simT)=tj at *;obtain ⟨⟨d0,d1,d2,d3,d4,d5,d6,d7⟩,f0,f1,f2,f3,f4,f5,f6,f7⟩:=cells8 R4.out.out;have hlt:=R4.out.out.lt;go_wp2_with fail
    change bodyPost _ _ _ _ _ (putNd (w4) (w.heap.size+1) 0 (tj) (ja) (jc))
    have hP:=R4.out.put (tj) (ja) (jc);have hG:=(by rw [HT.out];exact R4.out.gives (ok:=ok) HE.out.1 HE.out.2:Gives w ok tt (.returned (nodeV tj ja jc)) (putNd w4 (w.heap.size+1) 0 tj ja jc))
    generalize (putNd (w4) (w.heap.size+1) 0 (tj) (ja) (jc))=W9 at hP hG ⊢;obtain ⟨⟨e0,e1,e2,e3,e4,e5,e6,e7⟩,-⟩:=cells8 hP.1;exact bodyPost_ret (v:=nodeV (tj) (ja) (jc)) (by simp [results,Tryz.results15,go_sem,e0,e1,e2,e3,e4,e5,e6,e7]) rfl hG
   have hb3:(t.kind == 3)=false:=by simpa using h3
   by_cases h4:t.kind=4
   ·have hb4:(t.kind == 4)=true:=by simpa using h4
    have HT:=hid (show tt=altT (t.subs.map simT) by rw [← HTT.out,simT_eq,if_neg h3,if_pos h4])
    have HC:=hid (falt_any (t.subs.map simT) fa fc (fun b=>(ok b∨w.heap.size≤b)∧b≠w.heap.size+1) wr J.out.2.1 J.out.2.2.1 J.out.2.2.2.2.1)
    rw [List.length_map] at HC;clear hfs;go_wp2_with fail;refine HC.out.mono ?_;rintro e w4 ⟨⟨v,rfl,ja,jc,rfl,hle,hlie⟩,q4⟩;have R4:=hid (J.out.1.next q4);have hn2:=J.out.1.out.lt;have hn3:=J.out.1.keep.size;have HE:=hid (And.intro hle (lie_of (w:=w) (ok:=ok) (n:=w.heap.size+1) hlie (by omega) (by omega) (fun k h=>h)))
    clear q4 hlie hle hn2 hn3;generalize altT (t.subs.map simT)=tj at *;obtain ⟨⟨d0,d1,d2,d3,d4,d5,d6,d7⟩,f0,f1,f2,f3,f4,f5,f6,f7⟩:=cells8 R4.out.out;have hlt:=R4.out.out.lt;go_wp2_with fail
    change bodyPost _ _ _ _ _ (putNd (w4) (w.heap.size+1) 0 (tj) (ja) (jc))
    have hP:=R4.out.put (tj) (ja) (jc);have hG:=(by rw [HT.out];exact R4.out.gives (ok:=ok) HE.out.1 HE.out.2:Gives w ok tt (.returned (nodeV tj ja jc)) (putNd w4 (w.heap.size+1) 0 tj ja jc))
    generalize (putNd (w4) (w.heap.size+1) 0 (tj) (ja) (jc))=W9 at hP hG ⊢;obtain ⟨⟨e0,e1,e2,e3,e4,e5,e6,e7⟩,-⟩:=cells8 hP.1;exact bodyPost_ret (v:=nodeV (tj) (ja) (jc)) (by simp [results,Tryz.results15,go_sem,e0,e1,e2,e3,e4,e5,e6,e7]) rfl hG
   have hb4:(t.kind == 4)=false:=by simpa using h4
   by_cases h5:t.kind=5
   ·have hb5:(t.kind == 5)=true:=by simpa using h5
    obtain ⟨u,mn,mx,et,b0,b1,bx,hI⟩:=rep_is H0.out.2.2.2.1 h5;have hsub:t.subs=[u]:=by rw [et];rfl
    have hl1:t.subs.length=1:=by rw [hsub];rfl
    have HT:=hid (show tt=repP (simT u) t.mn t.mx by rw [← HTT.out,simT_eq,if_neg h3,if_neg h4,if_pos h5,hsub,simH])
    obtain ⟨bl,off,a3,c3,rfl,-,-,le3,L3,C3⟩:=J.out.2.1.get (i:=0) (t:=simT u) (by rw [hsub];rfl)
    obtain ⟨z0,z1,z2,z3,z4,z5,z6,z7⟩:=ncell C3;rw [Nat.zero_mul,Nat.add_zero] at z0 z1 z2 z3 z4 z5 z6 z7;have HC:=hid (fun W (q:Keep (fun _=>False) wr W)=>frep_any (simT u) t.mn t.mx a3 c3 (fun b=>(ok b∨w.heap.size≤b)∧b≠w.heap.size+1) W (L3.keepF q) le3)
    obtain ⟨X,hX⟩:∃ X,simT u=X:=⟨_,rfl⟩;rw [hX] at z0 z1 z2 z3 z4 z5 z6 z7 HC HT;obtain ⟨tj,htj⟩:∃ tj,repP X t.mn t.mx=tj:=⟨_,rfl⟩;rw [htj] at HC HT;have hpos:(0:Int)<t.subs.length:=by omega
    have hpos2:0<t.subs.length:=by omega
    clear h3 h4 h5 et hsub b0 b1 bx hI L3 C3 hX htj le3 hl1;go_wp2_with fail;have HW:=hid (And.intro J.out.1.out.lt J.out.1.keep.size)
    go_region_with (go_at_call 36;refine (HC.out _ (by first | exact ((Keep.refl _ _).drewN _) | exact ((Keep.refl _ _).drew) | exact Keep.refl _ _)).mono ?_;rintro e w4 ⟨⟨v,rfl,ja,jc,rfl,hle,hlie⟩,q4⟩;have R4:=hid (J.out.1.next (by first | exact ((Keep.refl _ _).drewN _).trans q4 | exact ((Keep.refl _ _).drew).trans q4 | exact q4));have HE:=hid (And.intro hle (lie_of (w:=w) (ok:=ok) (n:=w.heap.size+1) hlie (by first | exact HW.out.1) (by first | exact HW.out.2) (fun k h=>h)));clear q4 hlie hle;obtain ⟨⟨d0,d1,d2,d3,d4,d5,d6,d7⟩,f0,f1,f2,f3,f4,f5,f6,f7⟩:=cells8 R4.out.out;have hlt:=R4.out.out.lt)
    all_goals
     have hP:=end8 (ok:=ok) R4.out HT.out HE.out.1 HE.out.2;unfold put8 at hP;generalize World.setCell _ _ _=W9 at *;clear d0 d1 d2 d3 d4 d5 d6 d7 f0 f1 f2 f3 f4 f5 f6 f7;obtain ⟨⟨e0,e1,e2,e3,e4,e5,e6,e7⟩,-⟩:=cells8 hP.1;have HP:=hid hP;clear hP;go_wp2_with fail;exact bodyPost_ret (v:=nodeV tj ja jc) (by simp [results,Tryz.results15,go_sem,e0,e1,e2,e3,e4,e5,e6,e7]) rfl HP.out.2
   ·have hb5:(t.kind == 5)=false:=by simpa using h5
    have HT:=hid (show tt=t by rw [← HTT.out,simT_eq,if_neg h3,if_neg h4,if_neg h5])
    have R4:=hid J.out.1;have HE:=hid (And.intro H0.out.2.2.2.2.1 (J.out.2.2.2.2.2.1.mono (ok':=fun b=>(ok b∨w.heap.size≤b)∧b≠w.heap.size+1) fun b hb=>⟨.inl hb.1,by omega⟩))
    obtain ⟨⟨d0,d1,d2,d3,d4,d5,d6,d7⟩,f0,f1,f2,f3,f4,f5,f6,f7⟩:=cells8 R4.out.out;have hlt:=R4.out.out.lt;clear h3 h4 h5;go_wp2_with fail
    change bodyPost _ _ _ _ _ (putNd (wr) (w.heap.size+1) 0 (t) (a) (c))
    have hP:=R4.out.put (t) (a) (c);have hG:=(by rw [HT.out];exact R4.out.gives (ok:=ok) HE.out.1 HE.out.2:Gives w ok tt (.returned (nodeV t a c)) (putNd wr (w.heap.size+1) 0 t a c))
    generalize (putNd (wr) (w.heap.size+1) 0 (t) (a) (c))=W9 at hP hG ⊢;obtain ⟨⟨e0,e1,e2,e3,e4,e5,e6,e7⟩,-⟩:=cells8 hP.1;exact bodyPost_ret (v:=nodeV (t) (a) (c)) (by simp [results,Tryz.results15,go_sem,e0,e1,e2,e3,e4,e5,e6,e7]) rfl hG
theorem fsimple_all:∀ (n:Nat) (t:T),SizeOf.sizeOf t<n→FSimpOk t
 | 0,_,h=>absurd h (Nat.not_lt_zero _)
 | n+1,t,h=>fsimple_step n (fsimple_all n) t h
theorem fsimple_any (t:T):FSimpOk t:=fsimple_all _ t (Nat.lt_succ_self _)
end P10
namespace P12
open Go.RowKit Base Bytes P07 P08 P09 P10
open Sets (ST)
theorem word_drop {s:List UInt8} {i:Nat} (h:i<s.length) (u:T):wordG u (s.drop i)=if 4000<cnt (byT (P07.byteAt s i) u) then none else wordG (byT (P07.byteAt s i) u) (s.drop (i+1)):=by
 have e:P07.byteAt s i=s[i].toNat:=by unfold P07.byteAt;rw [List.getElem?_eq_getElem h];rfl
 rw [List.drop_eq_getElem_cons h,wordG,e]
end P12
namespace P12
open Go.RowKit Base Bytes P07 P08 P09 P10
open Sets (ST)
theorem cmatch_of (s:List UInt8) (t:T) (y:T) (er:Int) (B:Bool) (a:Option Addr) (c:Nat) (ok:Nat→Prop) (w:World) (hL:Lie w ok a t.subs)
  (hW:∀ W,Lie W ok a t.subs→Calls Tryz.prog 10 #[nodeV t a c,str s] W (Gives2 W ok y er))
  (hE:∀ (bl o:Nat) (a:Option Addr) (c:Nat) (W:World),NodeP W bl o y a c→Lie W (fun _=>True) a y.subs→Calls Tryz.prog 43 #[.pointer (some ⟨bl,o,none⟩)] W fun e w'=>e=.returned (.bool B)∧W=w') :
  Calls Tryz.prog 23 #[nodeV t a c,str s] w fun e w'=>e=.returned (.tuple #[.bool B,.int .i64 er])∧Keep (fun _=>False) w w':=by
 have ba:=At.new w (ncells t a c) 27;have q0:=(Keep.refl (fun _=>False) w).alloc (.cells (ncells t a c) 27)
 have H0:=hid (And.intro hW (And.intro hE (And.intro (hL.keepF q0) (And.intro ba q0))));clear ba q0 hL hW hE
 go_enter Tryz.func23,Tryz.ntmps23
 go_upto_region 1 with fail;generalize (w.alloc (.cells (ncells t a c) 27))=W0 at *;obtain ⟨⟨y0,y1,y2,y3,y4,y5,y6,y7⟩,-⟩:=cells8 H0.out.2.2.2.1;have HS:=hid (H0.out.1 W0 H0.out.2.2.1);go_wp2_with fail;refine HS.out.mono ?_;rintro e w2 ⟨⟨v,rfl,ka,kc,rfl,hle,hlie⟩,q2⟩;have a9:=At.new w2 (ncells y ka kc) 27;have q9:=(Keep.refl (fun _=>False) w2).alloc (.cells (ncells y ka kc) 27)
 have Q2:=hid (And.intro a9 (And.intro ((H0.out.2.2.2.2.trans q2).trans q9) (hlie.keepF q9)));obtain ⟨g,hg⟩:∃ g,w2.heap.size=g:=⟨_,rfl⟩;rw [hg] at Q2;clear hle hlie q2 y0 y1 y2 y3 y4 y5 y6 y7 a9 q9;go_upto_region 2 with fail
 change Code.wp _ _ _ _ (w2.alloc (.cells (ncells y ka kc) 27))
 generalize (w2.alloc (.cells (ncells y ka kc) 27))=W3 at *;have HM:=hid (H0.out.2.1 g 0 ka kc W3 (NodeP.of_at Q2.out.1) (Q2.out.2.2.mono fun _ _=>trivial))
 clear hg;go_wp2_with fail;refine HM.out.mono ?_;rintro e w4 ⟨rfl,rfl⟩;go_wp2_with fail;exact bodyPost_ret (v:=.tuple #[.bool B,.int .i64 er]) (by simp [results,Tryz.results23,go_sem]) rfl ⟨rfl,Q2.out.2.1⟩
end P12
namespace P12
open Go.RowKit Base Bytes P07 P08 P09 P10
open Sets (ST)
theorem zero_any (bl o:Nat) (a:Option Addr) (c:Nat) (w:World) (hP:NodeP w bl o zT a c):Calls Tryz.prog 43 #[.pointer (some ⟨bl,o,none⟩)] w fun e w'=>e=.returned (.bool (nullB zT))∧w=w':=by
 obtain ⟨c0,-,-,-,-,c5,-,c7⟩:=hP.eight;have k0:zT.kind=0:=rfl;rw [k0] at c0;clear hP k0
 go_enter Tryz.func43,Tryz.ntmps43
 go_wp2_with fail;go_ret;exact ⟨rfl,rfl⟩
end P12
namespace P12
open Go.RowKit Base Bytes P07 P08 P09 P10
theorem here_any (w:World) (b g n cap k:Nat) (x y z:Value) (h:At w b 85 #[.slice (some ⟨g,0,none⟩) n cap,.int .i64 k,x,y,z]) (hk:k<n) :
  Calls Tryz.prog 30 #[.pointer (some ⟨b,0,none⟩)] w fun e w'=>e=.returned (.pointer (some ⟨g,k * 9,none⟩))∧Keep (fun _=>False) w w':=by
 have k0:w.cell? ⟨b,0,none⟩=some (.slice (some ⟨g,0,none⟩) n cap):=h.cell rfl;have k1:w.cell? ⟨b,1,none⟩=some (.int .i64 k):=h.cell rfl;have i0:(0:Int)≤k:=by omega
 have i1:(k:Int)<n:=by omega
 clear h
 go_enter Tryz.func30,Tryz.ntmps30
 go_upto_region 1 with fail
 go_quiet (fail)
 go_wp2_with fail;have q0:=(Keep.refl (fun _=>False) w).drewN nq
 go_ret;exact ⟨by simp,q0⟩
end P12
namespace P12
open Go.RowKit Base Bytes P07 P08 P09 P10
open Sets (ST)
theorem long_drop {s:List UInt8} {i:Nat} (h:i<s.length) (u:T) (tt z:Int):longG u tt z (s.drop i)=if sameB u noT=true then some (if nullB u=true then z else tt) else if 4000<cnt (byT (P07.byteAt s i) u) then none else longG (byT (P07.byteAt s i) u) (if nullB u=true then z else tt) (z+1) (s.drop (i+1)):=by
 have e:P07.byteAt s i=s[i].toNat:=by unfold P07.byteAt;rw [List.getElem?_eq_getElem h];rfl
 rw [List.drop_eq_getElem_cons h,longG,e]
end P12
end Go.Proofs.YtlmfbchgkjgljaaGreat

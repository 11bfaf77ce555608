/- The code's Same (layer 7). -/
import Derived.Test.YtlmfbchgkjgljaaKF20
import Derived.Test.YtlmfbchgkjgljaaKF30
import Derived.Deep.RegionLaw
set_option maxRecDepth 100000
set_option maxHeartbeats 32000000
open Go.Lib (hid)
namespace Go.Proofs.Ytlmfbchgkjgljaa
namespace P07
open Go.RowKit Base IL Bytes
open Sets (ST)
def tot:List PR→Nat
 | []=>0
 | x::X=>1+cntL x.la+tot X
theorem tot_append:∀ X Y:List PR,tot (X++Y)=tot X+tot Y
 | [],Y=>by rw [List.nil_append,tot];omega
 | x::X,Y=>by rw [List.cons_append,tot,tot,tot_append X Y];omega
theorem tot_len:∀ X:List PR,X.length≤tot X
 | []=>Nat.le_refl 0
 | x::X=>by
  have:=tot_len X;rw [List.length_cons,tot];omega
theorem OP.one {W:World} {n0:Nat} {p:PR} (hp:PrOk W n0 p) (hn:n0≤W.heap.size) :
  OP (W.alloc (.cells (prcells p) 111)) n0 (.slice (some ⟨W.heap.size,0,none⟩) 1 1) [p]:=by
 refine ⟨⟨by rw [flatP_length],.inr ⟨W.heap.size,1,prcells p,rfl,Nat.zero_le _,At.new W _ _,Nat.le_refl 1,by decide,rfl,by simp⟩⟩,fun g hg=>?_,fun x hx=>?_⟩
 ·injection hg with hg
  rw [← hg];exact hn
 ·rw [List.mem_singleton.1 hx]
  exact hp.keep ((Keep.refl (fun _=>False) W).alloc _) (fun _ _ h=>h)
theorem step_append_run {P:Program} (w:World) {ops:Array Oper} {o:Oper} {a:Act} {K:Act→World→Prop} {Q:Exit→Act→World→Prop} {E:Prop} (hgd:o.guard=none) (s x:Operand) (t tn:TypeId)
  (ho:o.op=.call { callee:=.builtin .append,args:=#[s,x],argTypes:=#[t,tn] }) (vs vx:Value) (hs:a.eval s=vs) (hx:a.eval x=vx)
  (v':Value) (w':World) (hr:(Builtin.append_ #[t,tn] o.type #[vs,vx]).run P w=.ok v' w') (h:K (a.put o.dst v') w') :
  if Region.wanted o (yielded ops a.tmps)=true then Oper.wp P o a w K Q else E:=by
 have hw:Region.wanted o (yielded ops a.tmps)=true:=by simp [Region.wanted,hgd]
 rw [if_pos hw];exact Lib.wp_append_run w s x t tn ho vs vx hs hx v' w' hr h
structure InS (w:World) (n0:Nat) (a b:T) (m:Nat) (u:Value) (X:List PR) (W:World):Prop where
 op:OP W n0 u X
 eq:a=b↔∀ x ∈ X,x.la=x.lb
 len:∀ x ∈ X,x.la.length=x.lb.length
 tot:tot X≤m
 bd:m≤100000001
 keep:Keep (fun _=>False) w W
 low:w.heap.size≤n0∧n0≤W.heap.size
structure InI (w:World) (n0 nP:Nat) (a b:T) (p:PR) (lim k:Nat) (u:Value) (X:List PR) (W:World):Prop where
 op:OP W n0 u X
 own:∀ g,u.ownBlock=some g→g≠nP
 pat:At W nP 111 (prcells p)
 pok:PrOk W n0 p
 eq:a=b↔(∀ x ∈ X,x.la=x.lb)∧p.la.drop k=p.lb.drop k
 len:∀ x ∈ X,x.la.length=x.lb.length
 tot:tot X+cntL (p.la.drop k)≤lim
 keep:Keep (fun _=>False) w W
 low:w.heap.size≤n0∧n0≤nP
theorem InI.drawn {w:World} {n0 nP:Nat} {a b:T} {p:PR} {lim k:Nat} {u:Value} {X:List PR} {W W':World} (I:InI w n0 nP a b p lim k u X W) (d:Drawn W W'):InI w n0 nP a b p lim k u X W' :=
 have q:=d.keep (fun _=>False)
 ⟨I.op.keep q (fun _ h=>h.elim),I.own,I.pat.drawn d,I.pok.keep q (fun _ _ h=>h),I.eq,I.len,I.tot,I.keep.trans q,I.low⟩
theorem rsame_start (a b:T) (aa:Option Addr) (ac:Nat) (ba:Option Addr) (bc:Nat) (w:World) (ha:Lie w (fun _=>True) aa a.subs) (hb:Lie w (fun _=>True) ba b.subs) (hac:a.subs.length≤ac) (hbc:b.subs.length≤bc) (hcnt:cnt a≤100000000) :
  InS w (w.heap.size+4) a b (1+cnt a) (.slice (some ⟨w.heap.size+4,0,none⟩) 1 1) [⟨[a],[b],some ⟨w.heap.size+2,0,none⟩,1,some ⟨w.heap.size+3,0,none⟩,1⟩]
   (((((w.alloc (.cells (ncells a aa ac) 27)).alloc (.cells (ncells b ba bc) 27)).alloc (.cells (ncells a aa ac) 27)).alloc (.cells (ncells b ba bc) 27)).alloc (.cells #[.slice (some ⟨w.heap.size+2,0,none⟩) 1 1,.slice (some ⟨w.heap.size+3,0,none⟩) 1 1] 111)):=by
 obtain ⟨W2,hW2⟩:∃ W,(w.alloc (.cells (ncells a aa ac) 27)).alloc (.cells (ncells b ba bc) 27)=W:=⟨_,rfl⟩;have q2:Keep (fun _=>False) w W2:=by rw [← hW2];exact ((Keep.refl _ w).alloc _).alloc _
 have s2:W2.heap.size=w.heap.size+2:=by rw [← hW2];simp
 rw [hW2];have a3:=At.new W2 (ncells a aa ac) 27;have s3:(W2.alloc (.cells (ncells a aa ac) 27)).heap.size=w.heap.size+3:=by simp;omega
 have a4:=At.new (W2.alloc (.cells (ncells a aa ac) 27)) (ncells b ba bc) 27;have a3':=a3.alloc (.cells (ncells b ba bc) 27);rw [s2] at a3';rw [s3] at a4;have q4:=(q2.alloc (.cells (ncells a aa ac) 27)).alloc (.cells (ncells b ba bc) 27);have s4:((W2.alloc (.cells (ncells a aa ac) 27)).alloc (.cells (ncells b ba bc) 27)).heap.size=w.heap.size+4:=by simp;omega
 generalize ((W2.alloc (.cells (ncells a aa ac) 27)).alloc (.cells (ncells b ba bc) 27))=W4 at *;have hp:PrOk W4 (w.heap.size+4) ⟨[a],[b],some ⟨w.heap.size+2,0,none⟩,1,some ⟨w.heap.size+3,0,none⟩,1⟩ :=
  ⟨Nat.le_refl 1,Nat.le_refl 1,lie_one a3' (by omega) hac ((ha.under.keepF q4).mono (fun k hk=>by have:=hk.2;omega)),lie_one a4 (by omega) hbc ((hb.under.keepF q4).mono (fun k hk=>by have:=hk.2;omega))⟩
 have h:=OP.one hp (by omega)
 rw [s4] at h;refine ⟨h,⟨fun e x hx=>?_,fun hx=>?_⟩,fun x hx=>?_,?_,by omega,q4.alloc _,by omega,by simp;omega⟩
 ·rw [List.mem_singleton.1 hx,e]
 ·have:=hx _ (List.mem_singleton.2 rfl)
  injection this
 ·rw [List.mem_singleton.1 hx]
  rfl
 ·rw [tot,tot,cntL,cntL]
  omega
theorem rsame_any (a b:T) (aa:Option Addr) (ac:Nat) (ba:Option Addr) (bc:Nat) (w:World) (ha:Lie w (fun _=>True) aa a.subs) (hb:Lie w (fun _=>True) ba b.subs) (hac:a.subs.length≤ac) (hbc:b.subs.length≤bc) (hcnt:cnt a≤100000000) :
  Calls Try.prog 74 #[nodeV a aa ac,nodeV b ba bc] w (IsSame a b w):=by
 have W0:=hid (rsame_start a b aa ac ba bc w ha hb hac hbc hcnt);clear ha hb hac hbc
 go_enter Try.func74,Try.ntmps74
 go_wp2_with fail;generalize n0def:w.heap.size+4=n0 at W0;generalize ((((_:World).alloc _).alloc _).alloc (.cells #[.slice _ 1 1,.slice _ 1 1] 111))=V at *;have hb0:1+cnt a≤100000001:=by omega
 go_loopg [5] (1+cnt a) (fun gg u wr=>∃ X,InS w n0 a b gg u X wr)
 case atStart=>exact ⟨_,by subst n0def;exact W0.out⟩
 case round =>
  obtain ⟨X,I⟩:=hrel;obtain ⟨m0,hm0⟩:∃ m,m=gk:=⟨_,rfl⟩;subst hm0;have hgk:=I.bd
  rcases List.eq_nil_or_concat X with rfl | ⟨X',p,rfl⟩
  ·have hu:u5=.slice none 0 0∨∃ g cap,u5=.slice (some ⟨g,0,none⟩) 0 cap:=by
    rcases I.op.row.2 with ⟨h,_⟩ | ⟨g,cap,cur,h,_⟩
    ·exact .inl h
    ·exact .inr ⟨g,cap,h⟩
   have II:=hid I;clear I
   rcases hu with rfl | ⟨g,cap,rfl⟩
   ·go_wp2_with fail
    go_ret;exact ⟨true,rfl,⟨fun _=>II.out.eq.2 (fun x hx=>absurd hx (by simp)),fun _=>rfl⟩,II.out.keep⟩
   ·go_wp2_with fail
    go_ret;exact ⟨true,rfl,⟨fun _=>II.out.eq.2 (fun x hx=>absurd hx (by simp)),fun _=>rfl⟩,II.out.keep⟩
  ·rw [List.concat_eq_append] at I
   obtain ⟨g,cap,hu,hg0,hgl,hcap,hcapb,k0,k1,hop⟩:=I.op.last;have htl:=tot_len (X'++[p]);have htt:=tot_append X' [p];have hlen:X'.length≤100000001:=by
    have:=I.tot;rw [List.length_append,List.length_singleton] at htl;omega
   have II:=hid (And.intro I (And.intro hop (And.intro hg0 htt)));clear I hop htl htt hg0;subst hu;have w1:IntKind.i64.wrap ((X'.length:Int)+1 - 1)=X'.length:=by rw [IntKind.wrap_i64];omega
   have HI:=hid (show InI w n0 wr.heap.size a b p (m0 - 1) 0 (.slice (some ⟨g,0,none⟩) X'.length cap) X' (wr.alloc (.cells (prcells p) 111)) from by
    obtain ⟨I,hop,hg0,htt⟩:=II.out;have qa:=(Keep.refl (fun _=>False) wr).alloc (.cells (prcells p) 111)
    refine ⟨hop.keep qa (fun _ h=>h.elim),fun g' hg' e=>?_,At.new wr _ _,(I.op.ok p (by simp)).keep qa (fun _ _ h=>h),?_,fun x hx=>I.len x (by simp [hx]),?_,I.keep.trans qa,I.low⟩
    ·injection hg' with hg'
     subst hg';subst e;exact absurd hgl (Nat.lt_irrefl _)
    ·rw [I.eq,List.drop_zero,List.drop_zero]
     constructor
     ·intro h
      exact ⟨fun x hx=>h x (by simp [hx]),h p (by simp)⟩
     ·rintro ⟨h1,h2⟩ x hx
      rcases List.mem_append.1 hx with h | h
      ·exact h1 x h
      ·rw [List.mem_singleton.1 h]
       exact h2
    ·have h1:=I.tot
     rw [List.drop_zero];rw [htt,tot,tot] at h1
     omega)
   have HPL:=hid (II.out.1.len p (by simp))
   have hp0:=HI.out.pat;have hla:=HI.out.pok.la.len;go_upto_region 5 with fail;generalize (wr.alloc (.cells (prcells p) 111))=W7 at *;generalize wr.heap.size=nP at *;have hc0:=hp0.cell (o:=0) rfl;clear k0 k1 hp0;go_wp2_with fail
   go_loopg [5,31] p.la.length (fun gg u i wr=>∃ (k:Nat) (X:List PR),i=.int .i64 k∧k+gg=p.la.length∧InI w n0 nP a b p (m0 - 1) k u X wr)
   case atStart=>exact ⟨0,X',rfl,by omega,HI.out⟩
   case round =>
    obtain ⟨k,X,rfl,hk,I⟩:=hrel
    by_cases hlt:k<p.la.length
    ·have hlt':(k:Int)<p.la.length:=by omega
     have hltb:k<p.lb.length:=by have:=HPL.out;omega
     obtain ⟨ta,hta⟩:∃ t,p.la[k]?=some t:=⟨p.la[k],List.getElem?_eq_getElem hlt⟩;obtain ⟨tb,htb⟩:∃ t,p.lb[k]?=some t:=⟨p.lb[k],List.getElem?_eq_getElem hltb⟩;obtain ⟨bl1,off1,a1,c1,e1,ok1,-,le1,L1,C1⟩:=I.pok.la.get hta;obtain ⟨bl2,off2,a2,c2,e2,ok2,-,le2,L2,C2⟩:=I.pok.lb.get htb;have d0:=I.pat.cell (o:=0) (v:=.slice p.aa p.la.length p.ca) rfl;have d1:=I.pat.cell (o:=1) (v:=.slice p.ab p.lb.length p.cb) rfl;rw [e1] at d0;rw [e2] at d1;have i0:(0:Int)≤k:=by omega
     have hltb':(k:Int)<p.lb.length:=by omega
     have hal:∀ n,Calls Try.prog 79 #[.pointer (some ⟨bl1,off1+k * 8,none⟩),.pointer (some ⟨bl2,off2+k * 8,none⟩)] (wr.drewN n) fun e w'=>e=.returned (.bool (likeB ta tb))∧∃ m,w'=wr.drewN m:=fun n=>(alike_any ta tb bl1 (off1+k * 8) a1 c1 bl2 (off2+k * 8) a2 c2 (wr.drewN n) C1 C2).mono (by
      rintro e w' ⟨rfl,m,rfl⟩
      exact ⟨rfl,n+m,World.drewN_drewN _ _ _⟩)
     obtain ⟨g1,hg1⟩:∃ g,likeB ta tb=g:=⟨_,rfl⟩;rw [hg1] at hal;have HAL:=hid hal;have KK:=hid (And.intro I (And.intro hta (And.intro htb (And.intro hg1 (And.intro (And.intro ok1 (And.intro le1 L1)) (And.intro ok2 (And.intro le2 L2)))))));have C7:=(ncell C1).2.2.2.2.2.2.2;have D7:=(ncell C2).2.2.2.2.2.2.2;clear I hta htb L1 L2 C1 C2 hal hg1 e1 e2 ok1 ok2 le1 le2 HI;go_upto_region 9 with fail
     go_cut [43] (fun x43 wx=>x43=.bool (!g1)∧Drawn wr wx)
     case first =>
      go_quiet ((go_at_call 79;exact HAL.out _))
      go_wp2_with fail
      go_meet
      case rel=>exact ⟨by first | rfl | (cases g1 <;> rfl),⟨_,rfl⟩⟩
     case rest =>
      obtain ⟨rfl,hd⟩:=hcut;have I9:=KK.out.1.drawn hd;have C7':wc.cell? ⟨bl1,off1+k * 8+7,none⟩=some (.slice a1 ta.subs.length c1):=by
       have:=(hd.keep (fun _=>False)).cell (a:=⟨bl1,off1+k * 8+7,none⟩) (World.block_lt_of_cell? wr _ C7) (fun h=>h)
       rw [this];exact C7
      have D7':wc.cell? ⟨bl2,off2+k * 8+7,none⟩=some (.slice a2 tb.subs.length c2):=by
       have:=(hd.keep (fun _=>False)).cell (a:=⟨bl2,off2+k * 8+7,none⟩) (World.block_lt_of_cell? wr _ D7) (fun h=>h)
       rw [this];exact D7
      have d0':=(I9.pat.cell (o:=0) (v:=.slice p.aa p.la.length p.ca) rfl);have d1':=(I9.pat.cell (o:=1) (v:=.slice p.ab p.lb.length p.cb) rfl);have L1':=KK.out.2.2.2.2.1.2.2.keepF (hd.keep (fun _=>False))
      have L2':=KK.out.2.2.2.2.2.2.2.keepF (hd.keep (fun _=>False))
      have J9:=hid (And.intro I9 (And.intro L1' L2'));have hpa:p.aa=some ⟨bl1,off1,none⟩:=by
       have h1:=KK.out.1.pat.cell (o:=0) (v:=.slice p.aa p.la.length p.ca) rfl;rw [d0] at h1;injection h1 with h1;injection h1 with h1;exact h1.symm
      have hpb:p.ab=some ⟨bl2,off2,none⟩:=by
       have h1:=KK.out.1.pat.cell (o:=1) (v:=.slice p.ab p.lb.length p.cb) rfl;rw [d1] at h1;injection h1 with h1;injection h1 with h1;exact h1.symm
      rw [hpa] at d0';rw [hpb] at d1';clear I9 d0 d1 C7 D7 hd HAL hpa hpb L1' L2';have hdrop:∀ (L:List T) (t:T),L[k]?=some t→L.drop k=t::L.drop (k+1):=fun L t h=>by
       have e:=List.getElem?_eq_some_iff.1 h;rw [← e.2];exact List.drop_eq_getElem_cons e.1
      have HDR:=hid (And.intro (hdrop p.la ta KK.out.2.1) (hdrop p.lb tb KK.out.2.2.1));clear hdrop
      cases g1 with
      | false =>
       go_wp2_with fail;go_ret;refine ⟨false,rfl,⟨fun h=>(by cases h),fun h=>?_⟩,J9.out.1.keep⟩
       have h2:=(KK.out.1.eq.1 h).2;rw [HDR.out.1,HDR.out.2] at h2;injection h2 with h2 _;have h3:=KK.out.2.2.2.1;rw [h2] at h3;exact absurd h3 (by unfold likeB;rw [decide_eq_true ⟨rfl,eqB_refl _,rfl,rfl,rfl⟩];simp)
      | true =>
       have hlk:=of_decide_eq_true KK.out.2.2.2.1
       by_cases hsub:0<ta.subs.length
       ·have hsub':(0:Int)<ta.subs.length:=by omega
        have HLK:=hid hlk;clear hlk;have I9d:=J9.out.1.drawn (W':=wc.drew) ⟨1,rfl⟩;have hlenX:X.length≤1000000000:=by
         have h1:=I9d.tot;have h2:=tot_len X;omega
        have hpok:PrOk wc.drew n0 ⟨ta.subs,tb.subs,a1,c1,a2,c2⟩:=⟨KK.out.2.2.2.2.1.2.1,KK.out.2.2.2.2.2.2.1,J9.out.2.1.keepF (Keep.refl (fun _=>False) wc).drew,J9.out.2.2.keepF (Keep.refl (fun _=>False) wc).drew⟩
        obtain ⟨v',w9,hrun,g1',g2',g3'⟩:=I9d.op.push ⟨ta.subs,tb.subs,a1,c1,a2,c2⟩ hpok (by have:=I9d.pat.lt;have:=I9d.low;omega) hlenX 112
        have hrun':(Builtin.append_ #[112,112] 112 #[u5,.slice (some ⟨wc.heap.size,0,none⟩) 1 1]).run Try.prog ((wc.alloc (.cells #[.slice a1 ta.subs.length c1,.slice a2 tb.subs.length c2] 111)).drew)=.ok v' w9:=hrun
        have H9:=hid (show InI w n0 nP a b p (m0 - 1) (k+1) v' (X++[⟨ta.subs,tb.subs,a1,c1,a2,c2⟩]) w9 from by
         have hl:=I9d.low;have hnl:=I9d.pat.lt;refine ⟨g1',fun g hg e=>?_,I9d.pat.keep g2' (fun h=>I9d.own nP h rfl),I9d.pok.keep g2' (fun k hk e=>by have:=I9d.op.own k e;omega),?_,fun x hx=>?_,?_,I9d.keep.next g2' (fun i hi hlt=>by have:=I9d.op.own i hi;omega),hl⟩
         ·subst e
          rcases g3' g hg with h | h
          ·exact I9d.own g h rfl
          ·omega
         ·rw [I9d.eq,HDR.out.1,HDR.out.2]
          constructor
          ·rintro ⟨h1,h2⟩
           injection h2 with h3 h2;refine ⟨fun x hx=>?_,h2⟩
           rcases List.mem_append.1 hx with h | h
           ·exact h1 x h
           ·rw [List.mem_singleton.1 h,h3]
          ·rintro ⟨h1,h2⟩
           have h3:=h1 ⟨ta.subs,tb.subs,a1,c1,a2,c2⟩ (by simp)
           have h4:ta=tb:=T.ext HLK.out.1 (eqB_iff.1 HLK.out.2.1) HLK.out.2.2.1 HLK.out.2.2.2.1 h3;exact ⟨fun x hx=>h1 x (by simp [hx]),by rw [h2,h4]⟩
         ·rcases List.mem_append.1 hx with h | h
          ·exact I9d.len x h
          ·rw [List.mem_singleton.1 h]
           exact HLK.out.2.2.2.2
         ·have h1:=I9d.tot
          rw [HDR.out.1,cntL,cnt_eq] at h1;rw [tot_append,tot,tot]
          dsimp only
          omega)
        clear I9d hpok hrun g1' g2' g3' hlenX;go_upto_region 12 with fail
        go_region_law (refine step_append_run _ rfl (.tmp 52) (.tmp 66) 112 112 rfl u5 (.slice (some ⟨wc.heap.size,0,none⟩) 1 1) (by simp [Act.eval]) (by simp [Act.eval]) v' w9 hrun' ?_)
        all_goals
         clear hrun';go_wp2_with fail
         go_roundg (p.la.length - (k+1))
         case measure=>omega
         case rel=>exact ⟨k+1,_,by go_num,by omega,H9.out⟩
       ·have hsub0:ta.subs.length=0:=by omega
        have hsub':¬ (0:Int)<ta.subs.length:=by omega
        have hta:ta=tb:=T.ext hlk.1 (eqB_iff.1 hlk.2.1) hlk.2.2.1 hlk.2.2.2.1 (by
         have h2:=hlk.2.2.2.2
         rw [List.eq_nil_of_length_eq_zero hsub0,List.eq_nil_of_length_eq_zero (l:=tb.subs) (by omega)])
        have HT:=hid hta;clear hlk hta hsub0;go_wp2_with fail
        go_roundg (p.la.length - (k+1))
        case measure=>omega
        case rel =>
         have I:=J9.out.1;refine ⟨k+1,X,by go_num,by omega,⟨I.op,I.own,I.pat,I.pok,?_,I.len,?_,I.keep,I.low⟩⟩
         ·rw [I.eq,HDR.out.1,HDR.out.2,HT.out]
          constructor
          ·rintro ⟨h1,h2⟩
           injection h2 with _ h2;exact ⟨h1,h2⟩
          ·rintro ⟨h1,h2⟩
           exact ⟨h1,by rw [h2]⟩
         ·have h1:=I.tot
          rw [HDR.out.1,cntL] at h1;omega
    ·have hke:k=p.la.length:=by omega
     subst hke;have HI:=hid I;have hg1:0<m0:=by
      have h1:=II.out.1.tot;rw [II.out.2.2.2,tot] at h1;omega
     clear I;go_wp2_with fail
     go_roundg (m0 - 1)
     case measure=>omega
     case rel =>
      have I:=HI.out;refine ⟨X,⟨I.op,?_,I.len,by have:=I.tot;omega,by omega,I.keep,I.low.1,by have:=I.pat.lt;have:=I.low.2;omega⟩⟩
      rw [I.eq,List.drop_length,List.drop_eq_nil_of_le (by have:=HPL.out;omega)]
      simp
end P07
end Go.Proofs.Ytlmfbchgkjgljaa

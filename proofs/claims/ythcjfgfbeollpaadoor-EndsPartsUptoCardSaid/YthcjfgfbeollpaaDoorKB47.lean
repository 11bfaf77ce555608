/- Layer 11, the code: list. -/
import Derived.Test.YthcjfgfbeollpaaDoorKB45
import Derived.Test.YthcjfgfbeollpaaDoorKB38
import Derived.Deep.RegionLaw
import Derived.Test.YthcjfgfbeollpaaDoorKB33
import Derived.Deep.RegionHeld3
set_option maxRecDepth 100000
set_option maxHeartbeats 32000000
open Go.Lib (hid)
namespace Go.Proofs.YthcjfgfbeollpaaDoor
namespace P11
open Go.RowKit Base Bytes P07 P08 P09 IL
open Sets (ST pc cnt_le)
theorem strike {x:Nat} (h0:x≠0) (hx:x<18446744073709551616) (i:Nat):(x &&& (x - 1)).testBit i=true↔x.testBit i=true∧i≠Lib.ctz 64 x:=by
 obtain ⟨q,hq,hk⟩:=Lib.ctzFrom_spec 64 x (by omega) hx
 unfold Lib.ctz;rw [if_neg h0];generalize Lib.ctzFrom 64 x=k at *;have hp:=Nat.two_pow_pos k;have e:x - 1=2 ^ k * (2 * q)+(2 ^ k - 1):=by
  rw [hq,Nat.mul_add,Nat.mul_one];omega
 have e2:x=2 ^ k * (2 * q+1)+0:=by rw [hq];rfl
 rw [Nat.testBit_and,Bool.and_eq_true,e,Nat.testBit_two_pow_mul_add _ (by omega)]
 rw [e2,Nat.testBit_two_pow_mul_add _ hp]
 by_cases hik:i<k
 ·rw [if_pos hik,if_pos hik,Nat.zero_testBit]
  simp
 ·rw [if_neg hik,if_neg hik]
  by_cases hie:i=k
  ·subst hie
   rw [Nat.sub_self]
   simp
  ·obtain ⟨d,hd⟩:∃ d,i - k=d+1:=⟨i - k - 1,by omega⟩
   rw [hd,Nat.testBit_succ,Nat.testBit_succ,show (2 * q+1) / 2=q by omega,show 2 * q / 2=q by omega]
   simp [hie]
theorem step_append_run {P:Program} (w:World) {ops:Array Oper} {o:Oper} {a:Act} {K:Act→World→Prop} {Q:Exit→Act→World→Prop} {E:Prop} (hgd:o.guard=none) (s x:Operand) (t tn:TypeId)
  (ho:o.op=.call { callee:=.builtin .append,args:=#[s,x],argTypes:=#[t,tn] }) (vs vx:Value) (hs:a.eval s=vs) (hx:a.eval x=vx)
  (v':Value) (w':World) (hr:(Builtin.append_ #[t,tn] o.type #[vs,vx]).run P w=.ok v' w') (h:K (a.put o.dst v') w') :
  if Region.wanted o (yielded ops a.tmps)=true then Oper.wp P o a w K Q else E:=by
 have hw:Region.wanted o (yielded ops a.tmps)=true:=by simp [Region.wanted,hgd]
 rw [if_pos hw];exact Lib.wp_append_run w s x t tn ho vs vx hs hx v' w' hr h
def plm (m:Nat):List Int:=lst m.testBit 61
theorem lst_skip {f:Nat→Bool} {k j:Nat} (h:k≤j) (hn:∀ i,k≤i→i<j→f i=false):lst f j=lst f k:=by
 induction j with
 | zero=>rw [show k=0 by omega]
 | succ j ih =>
  by_cases e:k=j+1
  ·rw [e]
  ·rw [lst,hn j (by omega) (by omega)]
   simp only [Bool.false_eq_true,if_false]
   exact ih (by omega) (fun i h1 h2=>hn i h1 (by omega))
theorem lst_next {f:Nat→Bool} {k j:Nat} (h:k≤j) (hn:∀ i,k≤i→i<j→f i=false) (hj:f j=true):lst f (j+1)=lst f k++[(j:Int)]:=by
 rw [lst,hj,if_pos rfl,lst_skip h hn]
theorem lst_length (f:Nat→Bool):∀ k,(lst f k).length≤k
 | 0=>Nat.le_refl 0
 | k+1=>by
  rw [lst];have:=lst_length f k
  split
  ·rw [List.length_append,List.length_singleton]
   omega
  ·omega
theorem plm_zero:plm 0=[]:=by
 unfold plm;rw [lst_skip (k:=0) (by omega) (fun i _ _=>Nat.zero_testBit i)]
 rfl
theorem plist_any (m:Nat) (ok:Nat→Prop) (a:Option Addr) (n c:Nat) (w:World) (h:PlW w ok m a n c) (hT:Tab w) :
  Calls Tryd.prog 17 #[plV a n c] w (IsList (plm m) w):=by
 have a1:=At.new w (plC a n c) 48;have q:=(Keep.refl (fun _=>False) w).alloc (.cells (plC a n c) 48)
 have h':=h.keepF q;have hT':=hT.keep q;have H0:=hid (And.intro a1 (And.intro q hT'));obtain ⟨⟨c0,c1⟩,-⟩:=cells2 a1
 cases h with
 | none =>
  rw [plm_zero];clear h' a1 q hT hT'
  go_enter Tryd.func17,Tryd.ntmps17
  go_upto_region 1 with fail;generalize (w.alloc (.cells (plC none 0 0) 48))=W at *;go_wp2_with fail
  go_loopg [3,9] 0 (fun gg r v wr=>r=.slice none 0 0∧v=.int .i64 0∧W=wr)
  case atStart=>exact ⟨rfl,rfl,rfl⟩
  case round =>
   obtain ⟨rfl,rfl,rfl⟩:=hrel;go_wp2_with fail;go_ret;exact ⟨_,rfl,IL.nil _,fun g hg=>(by cases hg),H0.out.2.1⟩
 | word _ g _ h0 hm hc hg ho =>
  cases h' with
  | word _ _ _ _ _ _ hg' _ =>
   have k1:=hg'.cell;clear a1 q hT hT' hg ho;have HG:=hid (And.intro hg' hm);clear hg' hm
   go_enter Tryd.func17,Tryd.ntmps17
   go_upto_region 1 with fail;generalize (w.alloc (.cells (plC (some ⟨g,0,none⟩) 1 c) 48))=W at *;go_wp2_with fail
   go_loopg [3,9] 1 (fun gg r v wr=>(gg=1∧r=.slice none 0 0∧v=.int .i64 0∧W=wr)∨(gg=0∧v=.int .i64 1∧IL wr r (plm m)∧(∀ g,r.ownBlock=some g→W.heap.size≤g)∧Keep (fun _=>False) W wr))
   case atStart=>exact .inl ⟨rfl,rfl,rfl,rfl⟩
   case round =>
    rcases hrel with ⟨rfl,rfl,rfl,rfl⟩ | ⟨rfl,rfl,hil,hob,hq⟩
    ·go_wp2_with fail
     go_loopg [3,5] 61 (fun gg r v wr=>∃ x k:Nat,v=.int .u64 x∧k+gg=61∧x<2305843009213693952∧(∀ j,x.testBit j=true↔k≤j∧m.testBit j=true)∧IL wr r (lst m.testBit k)∧(∀ g,r.ownBlock=some g→W.heap.size≤g)∧Keep (fun _=>False) W wr)
     case atStart=>exact ⟨m,0,rfl,rfl,HG.out.2,fun j=>by simp,IL.nil _,fun g hg=>(by cases hg),Keep.refl _ _⟩
     case round =>
      obtain ⟨x,k,rfl,hk,hx,hxb,hil,hob,hq⟩:=hrel
      by_cases hx0:x=0
      ·have t0:((x:Int) == 0)=true:=by simp [hx0]
       have hend:lst m.testBit k=plm m:=(lst_skip (by omega) (fun i h1 _=>by
        cases e:m.testBit i with
        | false=>rfl
        | true =>
         have:=(hxb i).2 ⟨h1,e⟩;rw [hx0,Nat.zero_testBit] at this
         cases this)).symm
       rw [hend] at hil;have HE:=hid (And.intro hil (And.intro hob hq));clear hil hob hq hxb hx hend hx0 hk;go_wp2_with fail
       go_roundg 0
       case measure=>omega
       case rel=>exact .inr ⟨rfl,rfl,HE.out.1,HE.out.2.1,HE.out.2.2⟩
      ·have t0:((x:Int) == 0)=false:=by simp [hx0]
       obtain ⟨z1,z2,z3⟩:=ctz_spec x hx0 (by omega)
       have hst:=strike hx0 (show x<18446744073709551616 by omega)
       have hj:=(hxb _).1 z2
       have hnext:=lst_next hj.1 (fun i h1 h2=>by
        cases e:m.testBit i with
        | false=>rfl
        | true =>
         have:=(hxb i).2 ⟨h1,e⟩;rw [z3 i h2] at this
         cases this) hj.2
       have hsub:IntKind.u64.wrap ((x:Int) - 1)=((x - 1:Nat):Int):=by rw [IntKind.wrap_u64];omega
       have hand:=bits_and_u64_nat x (x - 1) (by omega) (by omega)
       have htz:=fun W' (qq:Keep (fun _=>False) W W')=>(tz_any x (by omega) W' (H0.out.2.2.keep qq)).mono fun (_:Ending) w' r=>(⟨r.1,by rw [← r.2];exact Keep.refl _ _⟩:_∧Keep (fun _=>False) W' w')
       have hj61:Lib.ctz 64 x<61:=by
        refine Decidable.byContradiction fun hn=>?_
        rw [Nat.testBit_lt_two_pow (Nat.lt_of_lt_of_le (show x<2 ^ 61 from hx) (Nat.pow_le_pow_right (by omega) (by omega)))] at z2
        cases z2
       have hyl:x &&& (x - 1)<2305843009213693952:=Nat.lt_of_le_of_lt Nat.and_le_left hx;generalize x &&& (x - 1)=y at *;generalize Lib.ctz 64 x=j at *;have hyb:∀ i,y.testBit i=true↔j+1≤i∧m.testBit i=true:=fun i=>by
        rw [hst i,hxb i]
        constructor
        ·rintro ⟨⟨b1,b2⟩,b3⟩
         refine ⟨?_,b2⟩;refine Decidable.byContradiction fun hn=>?_
         have h5:=z3 i (by omega)
         have h6:=(hxb i).2 ⟨b1,b2⟩;rw [h5] at h6
         cases h6
        ·rintro ⟨b1,b2⟩
         exact ⟨⟨by omega,b2⟩,by omega⟩
       have hvk:=fun w' (q':Keep (fun _=>False) wr w')=>(hil.keep q' (fun _ _ h=>h)).push (j:Int) (by have:=lst_length m.testBit k;omega) 31
       have hB:=H0.out.1.keep hq (fun h=>h)
       have H2:=hid (And.intro htz (And.intro hvk (And.intro hob (And.intro hq (And.intro hnext (And.intro hyb (And.intro hyl (And.intro hj61 (And.intro hB trivial)))))))));have HM:=hid (And.intro hk hj.1);have hw0:IntKind.i64.wrap 0=0:=by decide
       have hwj:IntKind.i64.wrap (j:Int)=j:=by rw [IntKind.wrap_i64];omega
       have hj0:(0:Int)≤j:=by omega
       have hj61':(j:Int)<61:=by omega
       obtain ⟨⟨d0,d1⟩,-⟩:=cells2 hB;clear htz hvk hob hq hnext hyb hyl hil hxb hst z1 z2 z3 hj hB c0 c1;go_upto_region 7 with fail
       go_region_law (first
        | (refine step_append_run _ rfl (.tmp 20) (.tmp 29) 31 31 rfl u3 (.slice (some ⟨w5.heap.size,0,none⟩) 1 1) (by simp [Act.eval]) (by simp [Act.eval]) v' w6 hrun ?_)
        | (go_simp;go_wp2_with (go_at_call 27;refine (H2.out.1 _ (H2.out.2.2.2.1.drew)).mono ?_;rintro e w5 ⟨rfl,q5⟩;have Q5:=hid (((Keep.refl (fun _=>False) wr).drew).trans q5);clear q5;have d0:=(H2.out.2.2.2.2.2.2.2.2.1.keep Q5.out (fun h=>h)).cell (o:=0) rfl;obtain ⟨v',w6,hrun,hv6,q6,hb6⟩:=H2.out.2.1 _ Q5.out;have H6:=hid (And.intro hv6 (And.intro q6 hb6));clear hv6 q6 hb6)))
       all_goals
        have hq5:=H2.out.2.2.2.1.trans Q5.out;have hob6:∀ g,v'.ownBlock=some g→W.heap.size≤g:=fun g hg=>by
         rcases H6.out.2.2 g hg with h | h
         ·exact H2.out.2.2.1 g h
         ·exact Nat.le_trans hq5.size h
        have hq6:Keep (fun _=>False) W w6:=hq5.next H6.out.2.1 (fun i hi hl=>by have:=H2.out.2.2.1 i hi;omega)
        have hv6:=H6.out.1;rw [← H2.out.2.2.2.2.1] at hv6;have H7:=hid (And.intro hv6 (And.intro hob6 (And.intro hq6 (And.intro H2.out.2.2.2.2.2.1 H2.out.2.2.2.2.2.2.1))));clear hq5 hob6 hq6 hv6;go_wp2_with fail
        go_roundg (61 - (j+1))
        case measure =>
         have:=HM.out;omega
        case rel=>exact ⟨y,j+1,rfl,by omega,H7.out.2.2.2.2,H7.out.2.2.2.1,H7.out.1,H7.out.2.1,H7.out.2.2.1⟩
    ·have HE:=hid (And.intro hil (And.intro hob (H0.out.2.1.trans hq)))
     have HS:=hid H0.out.2.1.size;clear hil hob hq;go_wp2_with fail;go_ret;exact ⟨_,rfl,HE.out.1,fun g hg=>Nat.le_trans HS.out (HE.out.2.1 g hg),HE.out.2.2⟩
end P11
namespace P11
open Go.RowKit Base Bytes P07 P08 P09
open Sets (ST pc cnt_le)
theorem make_two (w:World):(Instr.makeSlice 46 (.int .i64 2) (.int .i64 2)).run Tryd.prog w=.ok (.slice (some ⟨w.heap.size,0,none⟩) 2 2) (w.alloc (.cells #[.int .u64 0,.int .u64 0] 22)):=by
 obtain ⟨i0,hi0,hz0,hz1,hz2⟩:=info_parts infoU;have hr:=run_make (P:=Tryd.prog) w 46 22 i0 (.int .u64 0) Tryd.underlying46 hi0 hz0 .i64 .i64 2 2 (by omega) (Int.le_refl _) (by rw [hz2];omega) (by omega)
 rw [show (2:Int).toNat=2 from rfl,hz1,Nat.mul_one] at hr
 rw [hr];have e:(#[.int .u64 0,.int .u64 0]:Array Value)=Array.replicate 2 (.int .u64 0):=rfl;rw [e]
 congr 3
 apply Array.ext
 ·simp [madeCells]
 ·intro j h1 h2
  simp [madeCells,Value.cells,Nat.mod_one]
theorem Tab.lt {w:World} (h:Tab w):0<w.heap.size:=World.block_lt_of_cell? w _ (h 0 (by decide))
theorem Tab.keepS {S:Nat→Prop} {w w':World} (h:Tab w) (q:Keep S w w') (hS:¬ S 0):Tab w':=fun j hj=>by
 have hc:=h j hj;exact (q.cell (a:=⟨0,j,none⟩) (World.block_lt_of_cell? w _ hc) hS).trans hc
theorem over_word (s:List UInt8) (hsl:s.length≤59) (S:ST) (hS:S.Ok) (m z g c:Nat) (w:World) (hm:InT s m) (hz:InT s z) (hg:Wd w g m) (hO:OverM s S m z) (hT:Tab w) :
  Calls Tryd.prog 33 #[plV (some ⟨g,0,none⟩) 1 c,val S,.string ⟨s.toArray⟩] w fun e w'=>∃ a n c,e=.returned (plV a n c)∧PlW w' (fun g=>w.heap.size≤g) z a n c∧Keep (fun _=>False) w w':=by
 have hsz:=P07.size_str s;have b1:=((At.new w (plC (some ⟨g,0,none⟩) 1 c) 48).alloc (.cells (cells S) 24)).alloc (.cells plZ 48);have b2:=(At.new (w.alloc (.cells (plC (some ⟨g,0,none⟩) 1 c) 48)) (cells S) 24).alloc (.cells plZ 48);have b3:=At.new ((w.alloc (.cells (plC (some ⟨g,0,none⟩) 1 c) 48)).alloc (.cells (cells S) 24)) plZ 48;have q:=(((Keep.refl (fun _=>False) w).alloc (.cells (plC (some ⟨g,0,none⟩) 1 c) 48)).alloc (.cells (cells S) 24)).alloc (.cells plZ 48)
 rw [show (w.alloc (.cells (plC (some ⟨g,0,none⟩) 1 c) 48)).heap.size=w.heap.size+1 from by simp] at b2
 rw [show ((w.alloc (.cells (plC (some ⟨g,0,none⟩) 1 c) 48)).alloc (.cells (cells S) 24)).heap.size=w.heap.size+2 from by simp] at b3
 have hg':=hg.keep q (fun h=>h)
 have hT':=hT.keep q;have hTl:=Tab.lt hT';have H0:=hid (And.intro b1 (And.intro b2 (And.intro b3 (And.intro q (And.intro hg' hT')))));have HM:=hid (And.intro hm (And.intro hz (And.intro hO hS)));obtain ⟨⟨d0,d1⟩,-⟩:=cells2 b1;have k1:=hg'.cell;have hml:=hm.lt (by omega)
 have hzl:=hz.lt (by omega)
 clear b1 b2 b3 q hg' hT' hg hT hm hz hO hS
 go_enter Tryd.func33,Tryd.ntmps33
 go_upto_region 1 with fail;generalize (((w.alloc (.cells (plC (some ⟨g,0,none⟩) 1 c) 48)).alloc (.cells (cells S) 24)).alloc (.cells plZ 48))=W at *;have hmk:=make_two W;go_upto_region 2 with fail;have ha:=At.new W #[.int .u64 0,.int .u64 0] 22;have qa:=(Keep.refl (fun _=>False) W).alloc (.cells #[.int .u64 0,.int .u64 0] 22)
 have hgw:w.heap.size+2<W.heap.size:=H0.out.2.2.1.lt;have hgg:g<W.heap.size:=H0.out.2.2.2.2.1.lt;obtain ⟨gw,hgwe⟩:∃ gw,W.heap.size=gw:=⟨_,rfl⟩;rw [hgwe] at ha hgw hgg hTl ⊢;have H1:=hid (And.intro ha (And.intro (H0.out.1.keep qa (fun h=>h)) (And.intro (H0.out.2.1.keep qa (fun h=>h)) (And.intro (H0.out.2.2.1.keep qa (fun h=>h)) (And.intro (H0.out.2.2.2.1.trans qa) (And.intro (H0.out.2.2.2.2.1.keep qa (fun h=>h)) (H0.out.2.2.2.2.2.keep qa)))))))
 clear ha qa hmk d0 d1 k1 H0 hgwe;generalize (W.alloc (.cells #[.int .u64 0,.int .u64 0] 22))=W1 at *;obtain ⟨⟨d0,d1⟩,-⟩:=cells2 H1.out.2.1;have k1:=H1.out.2.2.2.2.2.1.cell;have HGW:=hid (And.intro hgw (And.intro hgg (show ¬ 0=gw by omega)))
 clear hgw hgg hTl;go_wp2_with fail
 go_loopg [20] 1 (fun gg v wr=>(gg=1∧v=.int .i64 0∧W1=wr)∨(gg=0∧v=.int .i64 1∧At wr gw 22 #[.int .u64 z,.int .u64 0]∧Keep (fun b=>b=gw) W1 wr))
 case atStart=>exact .inl ⟨rfl,rfl,rfl⟩
 case round =>
  rcases hrel with ⟨rfl,rfl,rfl⟩ | ⟨rfl,rfl,haw,hq⟩
  ·go_wp2_with fail
   go_loopg [9] 61 (fun gg v wr=>∃ x y k:Nat,v=.int .u64 x∧k+gg=61∧x<2305843009213693952∧(∀ j,x.testBit j=true↔k≤j∧m.testBit j=true)∧y<2305843009213693952∧(∀ j,y.testBit j=true↔j≤k∧z.testBit j=true)∧At wr gw 22 #[.int .u64 y,.int .u64 0]∧Keep (fun b=>b=gw) W1 wr)
   case atStart =>
    refine ⟨m,0,0,rfl,rfl,hml,fun j=>by simp,by omega,fun j=>?_,H1.out.1,Keep.refl _ _⟩
    rw [Nat.zero_testBit]
    constructor
    ·exact fun h=>by cases h
    ·rintro ⟨h1,h2⟩
     have:=((HM.out.2.2.1 j).1 h2).1;omega
   case round =>
    obtain ⟨x,y,k,rfl,hk,hx,hxb,hy,hyb,haw,hq⟩:=hrel;have hB1:=H1.out.2.1.keep hq (by have:=HGW.out;omega)
    have hB2:=H1.out.2.2.1.keep hq (by have:=HGW.out;omega)
    by_cases hx0:x=0
    ·have t0:((x:Int) == 0)=true:=by simp [hx0]
     have hyz:y=z:=bit_ext fun j=>by
      rw [hyb j];refine ⟨fun h=>h.2,fun h=>⟨?_,h⟩⟩
      have h2:=(HM.out.2.2.1 j).1 h;refine Decidable.byContradiction fun hn=>?_
      have h3:=(hxb (j - 1)).2 ⟨by omega,h2.2.2.1⟩
      rw [hx0,Nat.zero_testBit] at h3
      cases h3
     subst hyz;have HE:=hid (And.intro haw hq);clear haw hq hB1 hB2 hxb hyb hx hx0 hk hy;go_wp2_with fail
     go_roundg 0
     case measure=>omega
     case rel=>exact .inr ⟨rfl,rfl,HE.out.1,HE.out.2⟩
    ·have t0:((x:Int) == 0)=false:=by simp [hx0]
     obtain ⟨z1,z2,z3⟩:=ctz_spec x hx0 (by omega)
     have hst:=strike hx0 (show x<18446744073709551616 by omega)
     have hj:=(hxb _).1 z2;have hjs:=HM.out.1 _ hj.2;have hsub:IntKind.u64.wrap ((x:Int) - 1)=((x - 1:Nat):Int):=by rw [IntKind.wrap_u64];omega
     have hand:=bits_and_u64_nat x (x - 1) (by omega) (by omega)
     have hTw:Tab wr:=Tab.keepS H1.out.2.2.2.2.2.2 hq HGW.out.2.2;have htz:=tz_any x (by omega) wr hTw
     have hxl:x &&& (x - 1)<2305843009213693952:=Nat.lt_of_le_of_lt Nat.and_le_left hx;generalize x &&& (x - 1)=x2 at *;generalize Lib.ctz 64 x=j at *;have hxb2:∀ i,x2.testBit i=true↔j+1≤i∧m.testBit i=true:=fun i=>by
      rw [hst i,hxb i]
      constructor
      ·rintro ⟨⟨b1,b2⟩,b3⟩
       refine ⟨?_,b2⟩;refine Decidable.byContradiction fun hn=>?_
       have h5:=z3 i (by omega)
       have h6:=(hxb i).2 ⟨b1,b2⟩;rw [h5] at h6
       cases h6
      ·rintro ⟨b1,b2⟩
       exact ⟨⟨by omega,b2⟩,by omega⟩
     have hzj:∀ i,k<i→i≤j→¬ z.testBit i=true:=fun i h1 h2 h3=>by
      have h4:=(HM.out.2.2.1 i).1 h3;have h5:=(hxb (i - 1)).2 ⟨by omega,h4.2.2.1⟩
      rw [z3 (i - 1) (by omega)] at h5
      cases h5
     have hzn:z.testBit (j+1)=true↔j<s.length∧S.has (s.getD j 0).toNat=true:=by
      rw [HM.out.2.2.1 (j+1),Nat.add_sub_cancel];exact ⟨fun h=>⟨by omega,h.2.2.2⟩,fun h=>⟨by omega,by omega,hj.2,h.2⟩⟩
     have HJ:=hid (And.intro hk (And.intro hj.1 (And.intro hxb2 (And.intro hxl (And.intro hyb (And.intro hzj (And.intro hy (And.intro haw (And.intro hq hjs)))))))));obtain ⟨⟨d0,d1⟩,-⟩:=cells2 hB1;have hw0:IntKind.i64.wrap 0=0:=by decide
     have hwj:IntKind.i64.wrap (j:Int)=j:=by rw [IntKind.wrap_i64];omega
     have hj0:(0:Int)≤j:=by omega
     have HB:=hid (And.intro hB1 hB2);clear haw hq hxb hyb hst z2 z3 hxb2 hxl hzj hTw hB1 hB2 hk
     by_cases hjl:j<s.length
     ·have hix:∀ W,_:=fun W=>P07.index_run s j hjl W
      have hbt:=P07.byteAt_lt s j;have hhs:=fun W=>chas_any S HM.out.2.2.2 (byteAt s j) hbt W
      rw [← byteAt_getD] at hzn;generalize byteAt s j=bt at *;obtain ⟨bb,hbb⟩:∃ bb,S.has bt=bb:=⟨_,rfl⟩;rw [hbb] at hhs hzn;have HH:=hid hhs;have hjl':(j:Int)<s.length:=by omega
      have HSc:=hid (fun W' (q:Keep (fun _=>False) wr W')=>(show Keep (fun _=>False) wr W'∧W'.cell? ⟨w.heap.size+1,0,none⟩=some (.int .u64 S.x0)∧W'.cell? ⟨w.heap.size+1,1,none⟩=some (.int .u64 S.x1)∧W'.cell? ⟨w.heap.size+1,2,none⟩=some (.int .u64 S.x2)∧W'.cell? ⟨w.heap.size+1,3,none⟩=some (.int .u64 S.x3) from ⟨q,(cells4 (HB.out.2.keep q (fun h=>h))).1⟩))
      clear hhs hjs hj;go_wp2_with fail;refine htz.mono ?_;rintro e w5 ⟨rfl,rfl⟩;go_wp2_with fail
      go_region_held3 (fun W'=>Keep (fun _=>False) wr W'∧W'.cell? ⟨w.heap.size+1,0,none⟩=some (.int .u64 S.x0)∧W'.cell? ⟨w.heap.size+1,1,none⟩=some (.int .u64 S.x1)∧W'.cell? ⟨w.heap.size+1,2,none⟩=some (.int .u64 S.x2)∧W'.cell? ⟨w.heap.size+1,3,none⟩=some (.int .u64 S.x3)) (first | exact HSc.out _ ((Keep.refl _ _).drew) | exact HSc.out _ (Keep.trans (And.left (by assumption)) q)) (first
       | (go_at_call 41;refine (HH.out _).mono ?_;rintro e w5 ⟨rfl,q⟩))
      rename_i hh
      have ha5:=HJ.out.2.2.2.2.2.2.2.1.keep hh.1 (fun h=>h)
      have hq5:=HJ.out.2.2.2.2.2.2.2.2.1.trans (hh.1.mono (fun _ h=>h.elim))
      have HZN:=hid hzn;clear hh q hzn htz d0 d1
      cases bb with
      | false =>
       have H5:=hid (And.intro ha5 hq5);clear ha5 hq5;go_wp2_with fail
       go_roundg (61 - (j+1))
       case measure =>
        have:=HJ.out.1;have:=HJ.out.2.1;have:=HJ.out.2.2.2.2.2.2.2.2.2;omega
       case rel =>
        have hjs:=HJ.out.2.2.2.2.2.2.2.2.2;refine ⟨x2,y,j+1,rfl,by omega,HJ.out.2.2.2.1,HJ.out.2.2.1,HJ.out.2.2.2.2.2.2.1,fun i=>?_,H5.out.1,H5.out.2⟩
        rw [HJ.out.2.2.2.2.1 i];refine ⟨fun h=>⟨by have:=HJ.out.2.1;omega,h.2⟩,fun h=>⟨?_,h.2⟩⟩
        refine Decidable.byContradiction fun hn=>?_
        by_cases hi:i=j+1
        ·rw [hi] at h
         have:=(HZN.out.1 h.2).2
         cases this
        ·exact HJ.out.2.2.2.2.2.1 i (by omega) (by omega) h.2
      | true =>
       have hz1:=HZN.out.2 ⟨hjl,rfl⟩;obtain ⟨J,hJ⟩:∃ J,j+1=J:=⟨_,rfl⟩;have hJ1:IntKind.i64.wrap ((j:Int)+1)=(J:Int):=by rw [IntKind.wrap_i64];omega
       have hJ2:(J:Int) / 64=0:=by omega
       have hJ3:J % 64=J:=by omega
       have hsh:=shl_one J (by omega)
       have hyl:=HJ.out.2.2.2.2.2.2.1;have hpl:2 ^ J<2305843009213693952:=show 2 ^ J<2 ^ 61 from Nat.pow_lt_pow_right (by omega) (by omega)
       have hor:=u64_or_nat y (2 ^ J) (by omega) (by omega)
       have hyl2:y ||| 2 ^ J<2305843009213693952:=Nat.or_lt_two_pow (n:=61) hyl hpl
       have hyb2:∀ i,(y ||| 2 ^ J).testBit i=true↔i≤J∧z.testBit i=true:=fun i=>by
        rw [Nat.testBit_or,Bool.or_eq_true,HJ.out.2.2.2.2.1 i,Nat.testBit_two_pow,decide_eq_true_eq];have hkj:=HJ.out.2.1
        constructor
        ·rintro (h | h)
         ·exact ⟨by omega,h.2⟩
         ·rw [← h,← hJ]
          exact ⟨Nat.le_refl _,hz1⟩
        ·rintro ⟨h1,h2⟩
         by_cases hi:J=i
         ·exact .inr hi
         ·refine .inl ⟨?_,h2⟩
          refine Decidable.byContradiction fun hn=>?_
          exact HJ.out.2.2.2.2.2.1 i (by omega) (by omega) h2
       generalize y ||| 2 ^ J=y2 at *
       generalize 2 ^ J=pw at *;have hset:=ha5.set 0 (.int .u64 (y2:Int));have hqs:=hq5.setCell (p:=⟨gw,0,none⟩) (fun _=>rfl) (.int .u64 (y2:Int))
       have ky:w5.cell? ⟨gw,0,none⟩=some (.int .u64 (y:Int)):=ha5.cell rfl;have kf:=ha5.frozen 0;have H5:=hid (And.intro hset (And.intro hqs (And.intro hyb2 (And.intro hyl2 hJ))));clear ha5 hq5 hset hqs hyb2 hyl hyl2 hz1 hJ hpl;go_wp2_with fail
       go_region
       all_goals
        generalize (w5.setCell ⟨gw,0,none⟩ (.int .u64 (y2:Int)))=w6 at *;go_wp2_with fail
        go_roundg (61 - (j+1))
        case measure =>
         have:=HJ.out.1;have:=HJ.out.2.1;have:=HJ.out.2.2.2.2.2.2.2.2.2;omega
        case rel =>
         have hjs:=HJ.out.2.2.2.2.2.2.2.2.2;have hJ:=H5.out.2.2.2.2;exact ⟨x2,y2,J,rfl,by omega,HJ.out.2.2.2.1,fun i=>by rw [← hJ];exact HJ.out.2.2.1 i,H5.out.2.2.2.1,H5.out.2.2.1,H5.out.1.drew,H5.out.2.1.drew⟩
     ·have hjl':¬ ((j:Int)<s.length):=by omega
      have hjl2:((s.length:Int)≤j):=by omega
      have hzf:¬ z.testBit (j+1)=true:=fun h=>hjl (hzn.1 h).1
      have HZF:=hid hzf;clear hzn hzf hjs hj;go_wp2_with fail;refine htz.mono ?_;rintro e w5 ⟨rfl,rfl⟩;go_wp2_with fail
      go_quiet (fail)
      go_wp2_with fail
      go_roundg (61 - (j+1))
      case measure =>
       have:=HJ.out.1;have:=HJ.out.2.1;have:=HJ.out.2.2.2.2.2.2.2.2.2;omega
      case rel =>
       have hjs:=HJ.out.2.2.2.2.2.2.2.2.2;refine ⟨x2,y,j+1,rfl,by omega,HJ.out.2.2.2.1,HJ.out.2.2.1,HJ.out.2.2.2.2.2.2.1,fun i=>?_,HJ.out.2.2.2.2.2.2.2.1.drewN _,HJ.out.2.2.2.2.2.2.2.2.1.drewN _⟩
       rw [HJ.out.2.2.2.2.1 i];refine ⟨fun h=>⟨by have:=HJ.out.2.1;omega,h.2⟩,fun h=>⟨?_,h.2⟩⟩
       refine Decidable.byContradiction fun hn=>?_
       by_cases hi:i=j+1
       ·rw [hi] at h
        exact HZF.out h.2
       ·exact HJ.out.2.2.2.2.2.1 i (by omega) (by omega) h.2
  ·have hsz1:=HGW.out
   have HB:=hid (And.intro (H1.out.2.2.2.1.keep hq (by omega)) (And.intro (H1.out.2.2.2.2.1.next hq (fun i hi hl=>by omega)) (show w.heap.size+2<gw from hsz1.1)))
   obtain ⟨⟨d0,d1⟩,-⟩:=cells2 (H1.out.2.1.keep hq (by omega))
   have HT:=hid (fun W (h:Keep (fun _=>False) wr W)=>trimmed_any gw 2 2 z _ W (haw.keep h (fun h=>h)) rfl (.inr ⟨rfl,rfl⟩) hzl (by omega))
   have HA:=hid haw;clear hq haw hsz1 k1;go_wp2_with fail;refine (HT.out _ (Keep.refl _ _)).mono ?_;rintro e w3 ⟨a3,n3,c3,rfl,hp3,q3⟩;have H3:=hid (And.intro (HB.out.1.keep q3 (fun h=>h)) (And.intro (HB.out.2.1.trans q3) (And.intro hp3 HB.out.2.2)))
   clear q3 hp3 d0 d1 HT;obtain ⟨⟨c0,c1'⟩,f0,f1⟩:=cells2 H3.out.1;go_wp2_with fail
   change bodyPost _ _ _ _ _ (put2 w3 (w.heap.size+2) (.int .i64 0) (.slice a3 n3 c3))
   have a:=set2 H3.out.1 (.int .i64 0) (.slice a3 n3 c3);have qq:=keep2 H3.out.2.1 (b:=w.heap.size+2) (fun h=>absurd h (by omega)) (.int .i64 0) (.slice a3 n3 c3)
   have hp:=H3.out.2.2.1.keep (keep2 (Keep.refl (fun b=>b=w.heap.size+2) w3) (b:=w.heap.size+2) (fun _=>rfl) (.int .i64 0) (.slice a3 n3 c3)) (fun g hg _ h=>by have:=H3.out.2.2.2;omega)
   generalize (put2 w3 (w.heap.size+2) (.int .i64 0) (.slice a3 n3 c3))=W9 at *;obtain ⟨⟨e0,e1⟩,-⟩:=cells2 a;exact bodyPost_ret (v:=plV a3 n3 c3) (by simp [results,Tryd.results33,go_sem,e0,e1]) rfl ⟨_,_,_,rfl,hp.mono (fun g hg _=>by have:=H3.out.2.2.2;omega),qq⟩
end P11
end Go.Proofs.YthcjfgfbeollpaaDoor

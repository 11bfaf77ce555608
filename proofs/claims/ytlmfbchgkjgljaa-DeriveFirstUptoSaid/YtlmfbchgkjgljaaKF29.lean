/- The document's nothing and of (layer 10). -/
import Derived.Test.YtlmfbchgkjgljaaKF21
import Derived.Test.YtlmfbchgkjgljaaKF27
import Derived.Test.YtlmfbchgkjgljaaKF23
import Derived.Test.YtlmfbchgkjgljaaKF03
import Derived.Maps.AppendAt
import Derived.Lib.AppendZeros
set_option maxRecDepth 100000
set_option maxHeartbeats 32000000
namespace Go.Proofs.Ytlmfbchgkjgljaa
namespace P10
open Go.RowKit Base Bytes P07 P08
open Sets (ST)
def Gives (w:World) (ok:Nat→Prop) (t:T) (e:Ending) (w':World):Prop:=(∃ v,e=.returned v∧NodeV w' (fun k=>ok k∨w.heap.size≤k) v t)∧Keep (fun _=>False) w w'
structure Rb (w:World) (n:Nat) (W:World):Prop where
 out:At W n 27 nzeros
 keep:Keep (fun _=>False) w W
 lt:w.heap.size≤n
theorem Rb.next {w:World} {n:Nat} {W W':World} (h:Rb w n W) (q:Keep (fun _=>False) W W'):Rb w n W':=⟨h.out.keep q (fun h=>h),h.keep.trans q,h.lt⟩
theorem Rb.put {w:World} {n:Nat} {W:World} (h:Rb w n W) (t:T) (a:Option Addr) (c:Nat):At (putNd W n 0 t a c) n 27 (ncells t a c)∧Keep (fun _=>False) w (putNd W n 0 t a c)∧Keep (fun b=>b=n) W (putNd W n 0 t a c):=by
 have k:=set8 h.out (.int .i64 t.kind) (.int .u64 t.set.x0) (.int .u64 t.set.x1) (.int .u64 t.set.x2) (.int .u64 t.set.x3) (.int .i64 t.mn) (.int .i64 t.mx) (.slice a t.subs.length c);exact ⟨k,keep8 h.keep (b:=n) (fun h1=>absurd h1 (by have:=h.lt;omega)) (.int .i64 t.kind) (.int .u64 t.set.x0) (.int .u64 t.set.x1) (.int .u64 t.set.x2) (.int .u64 t.set.x3) (.int .i64 t.mn) (.int .i64 t.mx) (.slice a t.subs.length c),putNd_keep W n 0 t a c⟩
theorem Rb.gives {w:World} {n:Nat} {W:World} (h:Rb w n W) {ok:Nat→Prop} {t:T} {a:Option Addr} {c:Nat} (hc:t.subs.length≤c) (hl:Lie W (fun k=>(ok k∨w.heap.size≤k)∧k≠n) a t.subs):Gives w ok t (.returned (nodeV t a c)) (putNd W n 0 t a c):=by
 have k:=h.put t a c;exact ⟨⟨_,rfl,a,c,rfl,hc,(hl.keep k.2.2 (fun k hk e=>hk.2 e)).mono fun k hk=>hk.1⟩,k.2.1⟩
end P10
namespace P12
open Go.RowKit Base Bytes P07 P08 P10
open Sets (ST)
theorem lie_tail {w:World} {ok:Nat→Prop} {t:T} {L:List T} {bl off:Nat} (h:Lie w ok (some ⟨bl,off,none⟩) (t::L)):Lie w ok (some ⟨bl,off+8,none⟩) L:=by
 cases h with
 | cons bl off _ A C hL hb hok hC hc hs =>
  refine .cons bl (off+8) L (fun i=>A (i+1)) (fun i=>C (i+1)) (by rw [List.length_cons] at hL;omega) hb hok (fun i u hu=>hC (i+1) u hu) (fun i u hu j v hv=>?_) (fun i u hu=>hs (i+1) u hu)
  have:=hc (i+1) u hu j v hv;rw [show off+8+i * 8+j=off+(i+1) * 8+j from by omega]
  exact this
theorem lie_drop {w:World} {ok:Nat→Prop} {L:List T} {bl off:Nat} (h:Lie w ok (some ⟨bl,off,none⟩) L) (k:Nat):Lie w ok (some ⟨bl,off+k * 8,none⟩) (L.drop k):=by
 induction k generalizing L off with
 | zero=>rw [Nat.zero_mul,Nat.add_zero,List.drop_zero];exact h
 | succ k ih =>
  match L,h with
  | [],_=>rw [List.drop_nil];exact .nil _
  | t::L,h =>
   rw [List.drop_succ_cons,show off+(k+1) * 8=off+8+k * 8 from by omega]
   exact ih (lie_tail h)
theorem step_append_at {P:Program} (w:World) {ops:Array Oper} {o:Oper} {a:Act} {K:Act→World→Prop} {Q:Exit→Act→World→Prop} {E:Prop} (hw:Region.wanted o (yielded ops a.tmps)=true) (s x:Operand) (t tn:TypeId)
  (ho:o.op=.call { callee:=.builtin .append,args:=#[s,x],argTypes:=#[t,tn] }) (vs vx:Value) (hs:a.eval s=vs) (hx:a.eval x=vx)
  (v':Value) (w':World) (hr:(Builtin.append_ #[t,tn] o.type #[vs,vx]).run P w=.ok v' w') (h:K (a.put o.dst v') w') :
  if Region.wanted o (yielded ops a.tmps)=true then Oper.wp P o a w K Q else E:=by
 rw [if_pos hw];exact Lib.wp_append_run w s x t tn ho vs vx hs hx v' w' hr h
theorem oe_one {X:World} {E:Nat→Prop} {r:Nat} {t:T} {a:Option Addr} {c:Nat} (h:At X r 27 (ncells t a c)) (hc:t.subs.length≤c) (hl:Lie X E a t.subs):OE X E (.slice (some ⟨r,0,none⟩) 1 1) [t]:=by
 refine ⟨[(t,a,c)],⟨by rw [flatN_length],.inr ⟨r,1,ncells t a c,rfl,Nat.zero_le _,h,Nat.le_refl _,?_,rfl,rfl⟩⟩,fun x hx=>?_,rfl⟩
 ·simp [maxLen]
 ·rw [List.mem_singleton.1 hx]
  exact ⟨hc,hl⟩
theorem app_one {W:World} {E:Nat→Prop} {r:Nat} {t:T} {ja:Option Addr} {jc:Nat} (h:At W r 27 (ncells t ja jc)) (hc:t.subs.length≤jc) (hl:Lie W E ja t.subs) (hE:∀ j,E j→j≠r) (M:List T) (a:Option Addr) (c:Nat) (hM:Lie W E a M) (hlen:(1+M.length) * 80≤140737488355328) (ty:TypeId) :
  ∃ fa fc w8,(Builtin.append_ #[25,25] ty #[.slice (some ⟨r,0,none⟩) 1 1,.slice a M.length c]).run Try.prog W=.ok (.slice fa (M.length+1:Nat) fc) w8∧(t::M).length≤fc∧Lie w8 (fun j=>E j∨j=r∨W.heap.size≤j) fa (t::M)∧Keep (fun b=>b=r) W w8:=by
 have h1:=oe_one h hc hl;obtain ⟨v',w8,hrun,g1,g2,g3⟩:=h1.append (fun g hg e=>by have hg:some r=some g:=hg;injection hg with hg;exact hE g e hg.symm) M a c hM (by simpa using hlen) ty
 obtain ⟨fa,fc,rfl,hfc,-⟩:=g1.form;have e:([t]++M).length=M.length+1:=by simp
 have hl8:Lie w8 (fun j=>E j∨j=r∨W.heap.size≤j) fa ([t]++M):=by
  have hk:∀ k,Own k (.slice fa ([t]++M).length fc)→Lie w8 (fun j=>E j∨k≤j) fa ([t]++M):=fun k ho=>by
   obtain ⟨fa',fc',ev,-,hl'⟩:=g1.lie ho;injection ev with e1;rw [e1];exact hl'
  cases hfa:fa with
  | none =>
   rw [hfa] at hk;exact (hk (W.heap.size) (fun g hg=>by cases hg)).mono fun j hj=>hj.elim .inl fun h=>.inr (.inr h)
  | some ad =>
   rw [hfa] at hk g3;have hl0:=hk 0 (fun g _=>Nat.zero_le _)
   cases hl0 with
   | cons bl off _ A C hL hb hok hC hcc hs =>
    have hbl:bl=r∨W.heap.size≤bl:=by
     rcases g3 bl rfl with h | h
     ·have h:some r=some bl:=h
      injection h with h;exact .inl h.symm
     ·exact .inr h
    obtain ⟨X,k1,k2,k3⟩:=id g1;refine .cons bl off _ A C hL hb (.inr hbl) hC hcc (fun i u hu=>?_)
    rw [← k3,List.getElem?_map] at hu;obtain ⟨x,hx,rfl⟩:=Option.map_eq_some_iff.1 hu;have hx2:=(k2 x (List.mem_of_getElem? hx)).2;have hc2:=hcc i x.1 (by rw [← k3,List.getElem?_map,hx];rfl) 7 _ rfl
    obtain ⟨g,cap2,a2,c2,ev,-,-,-,l2,c3,-⟩:=g1.get (i:=i) (t:=x.1) (by rw [← k3,List.getElem?_map,hx];rfl)
    injection ev with ev1;rw [hfa] at ev1;injection ev1 with ev1;injection ev1 with ev1 ev2;subst ev1 ev2;have:=c3 7 _ rfl;rw [Nat.zero_add] at hc2;rw [this] at hc2;injection hc2 with hc2;injection hc2 with hc2;rw [← hc2];exact l2.mono fun j hj=>.inl hj
 rw [e] at hrun;exact ⟨fa,fc,w8,hrun,hfc,hl8,g2.mono fun b hb=>by have hb:some r=some b:=hb;injection hb with hb;exact hb.symm⟩
end P12
namespace P12
open Go.RowKit Base
def bv (x:UInt8):Value:=.int .u8 (x.toNat:Int)
def BL (w:World) (v:Value) (L:List UInt8):Prop:=w.ownsRow 0 5 1 v L.length (L.map bv)
theorem BL.nil (w:World):BL w (.slice none 0 0) []:=⟨rfl,.inl ⟨rfl,rfl⟩⟩
theorem BL.keep {S:Nat→Prop} {w w':World} {v:Value} {L:List UInt8} (h:BL w v L) (q:Keep S w w') (hn:∀ g,v.ownBlock=some g→¬ S g):BL w' v L:=by
 refine ⟨h.1,?_⟩
 rcases h.2 with h | ⟨g,cap,cur,rfl,hb,hg,r⟩
 ·exact .inl h
 ·refine .inr ⟨g,cap,cur,rfl,hb,?_,r⟩
  have:At w g 5 cur:=hg;exact this.keep q (hn g rfl)
theorem BL.lt {w:World} {v:Value} {L:List UInt8} (h:BL w v L) {g:Nat} (hg:v.ownBlock=some g):g<w.heap.size:=by
 rcases h.2 with ⟨rfl,_⟩ | ⟨g',cap,cur,rfl,_,h1,_⟩
 ·cases hg
 ·cases hg
  exact (Array.getElem?_eq_some_iff.1 h1).1
theorem BL.form {w:World} {v:Value} {L:List UInt8} (h:BL w v L):∃ a cap,v=.slice a L.length cap∧∀ (i:Nat) (x:UInt8),L[i]?=some x→∃ g,v.ownBlock=some g∧a=some ⟨g,0,none⟩∧w.cell? ⟨g,i,none⟩=some (bv x):=by
 rcases h.2 with ⟨rfl,h0⟩ | ⟨g,cap,cur,rfl,_,hg,h1,h2,h3,h4⟩
 ·refine ⟨none,0,by rw [h0],fun i x hx=>?_⟩
  rw [List.eq_nil_of_length_eq_zero h0] at hx
  simp at hx
 ·refine ⟨_,cap,rfl,fun i x hx=>⟨g,rfl,rfl,?_⟩⟩
  have hi:i<L.length:=(List.getElem?_eq_some_iff.1 hx).1;have ha:At w g 5 cur:=hg;refine ha.cell ?_;have h5:(cur.toList.take (L.length * 1))[i]?=(L.map bv)[i]?:=by rw [h4]
  rw [List.getElem?_take_of_lt (by omega),List.getElem?_map,hx] at h5
  simpa using h5
theorem infoB:(Try.prog.info? 5).map (fun i=>(i.zero,i.size,i.bytes))=some (some (.int .u8 0),1,1):=by kernel_rfl
theorem keep_grown {w w':World} {r:Option Nat} (h:w.grownBy w' r):Keep (fun b=>r=some b) w w' :=
 ⟨h.os,h.tape,h.output,h.size,fun k hk hn=>h.block k hk (fun e=>hn e.symm)⟩
theorem append_of_nil (w:World) (ty:TypeId) (v:Value) (L:List UInt8) (h:BL w v L) (c:Nat):(Builtin.append_ #[91,91] ty #[v,.slice none 0 c]).run Try.prog w=.ok v w:=by
 obtain ⟨i0,hi0,hz0,hz1,hz2⟩:=info_parts infoB
 rcases h.2 with ⟨rfl,h0⟩ | ⟨g,cap,cur,rfl,_,_,hnc,_⟩
 ·simp [Builtin.append_,run_underlying (P:=Try.prog) Try.underlying91,sizeOf,typeInfo,hi0,Builtin.lenOf,Builtin.firstCells]
 ·simp [Builtin.append_,run_underlying (P:=Try.prog) Try.underlying91,sizeOf,typeInfo,hi0,Builtin.lenOf,Builtin.firstCells,hnc,storeCells]
theorem BL.append {w:World} {v:Value} {L:List UInt8} (h:BL w v L) (M:List UInt8) (A:Option Addr) (c:Nat) (hs:∀ (j:Nat) (x:UInt8),M[j]?=some x→∃ ad,A=some ad∧w.cell? (ad.add j)=some (bv x)) (hl:L.length+M.length≤2097152) (ty:TypeId) :
  ∃ v' w',(Builtin.append_ #[91,91] ty #[v,.slice A M.length c]).run Try.prog w=.ok v' w'∧BL w' v' (L++M)∧Keep (fun b=>v.ownBlock=some b) w w'∧(∀ g,v'.ownBlock=some g→v.ownBlock=some g∨w.heap.size≤g):=by
 cases A with
 | none =>
  have hM:M=[]:=by
   cases M with
   | nil=>rfl
   | cons x M=>obtain ⟨ad,e,_⟩:=hs 0 x rfl;cases e
  subst hM;exact ⟨v,w,append_of_nil w ty v L h c,by simpa using h,Keep.refl _ w,fun g hg=>.inl hg⟩
 | some ad =>
  obtain ⟨i0,hi0,hz0,hz1,hz2⟩:=info_parts infoB;obtain ⟨v',w',hrun,h2,h3,_,h5⟩:=run_append_own_at (P:=Try.prog) w 0 91 ty 5 i0 (.int .u8 0) 1 1 Try.underlying91 hi0 hz0 hz1 hz2 rfl (by omega) v L.length (L.map bv) h ad M.length c (M.map bv) (by simp)
   (fun j u hu=>by
    rw [List.getElem?_map] at hu
    cases e:M[j]? with
    | none=>rw [e] at hu;cases hu
    | some x =>
     rw [e] at hu
     cases hu
     obtain ⟨ad',e',hc⟩:=hs j x e
     cases e'
     exact hc) (by intro u hu;obtain ⟨x,_,rfl⟩:=List.mem_map.1 hu;rfl) (by simp only [maxLen];omega) (by omega) (Nat.zero_le _)
  refine ⟨v',w',hrun,by unfold BL;rw [List.length_append,List.map_append];exact h2,keep_grown h3,fun g hg=>?_⟩
  rcases h5 with h5 | h5
  ·exact .inl (by rw [← h5];exact hg)
  ·rw [h5] at hg
   injection hg with hg;exact .inr (by omega)
theorem BL.push {w:World} {v:Value} {L:List UInt8} (h:BL w v L) (x:UInt8) (hl:L.length<2097152) (ty:TypeId) :
  ∃ v' w',(Builtin.append_ #[91,91] ty #[v,.slice (some ⟨w.heap.size,0,none⟩) 1 1]).run Try.prog (w.alloc (.cells #[bv x] 5))=.ok v' w'∧BL w' v' (L++[x])∧Keep (fun b=>v.ownBlock=some b) w w'∧(∀ g,v'.ownBlock=some g→v.ownBlock=some g∨w.heap.size≤g):=by
 have h1:BL (w.alloc (.cells #[bv x] 5)) v L:=h.keep ((Keep.refl (fun _=>False) w).alloc _) (fun _ _ h=>h)
 have c1:=(At.new w #[bv x] 5).cell (o:=0) rfl
 obtain ⟨v',w',hr,g1,g2,g3⟩:=h1.append [x] (some ⟨w.heap.size,0,none⟩) 1 (fun j y hy=>by
  match j,hy with
  | 0,hy=>cases hy;exact ⟨_,rfl,c1⟩
  | j+1,hy=>simp at hy) (by simp;omega) ty
 refine ⟨v',w',hr,g1,((Keep.refl _ w).alloc _).trans g2,fun g hg=>?_⟩
 rcases g3 g hg with h | h
 ·exact .inl h
 ·right
  simp at h
  omega
end P12
end Go.Proofs.Ytlmfbchgkjgljaa

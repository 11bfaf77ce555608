/- The code's ofAlt (layer 12). -/
import Derived.Test.YtlmfbchgkjgljaaKF49
set_option maxRecDepth 100000
set_option maxHeartbeats 32000000
open Go.Lib (hid)
namespace Go.Proofs.Ytlmfbchgkjgljaa
namespace P12
open Go.RowKit Base Bytes P07 P08 P09 P10
open Sets (ST)
def Ofd (w:World) (ok:Nat→Prop) (y:T) (M:Int) (e:Ending) (w':World):Prop:=∃ z,GiveB w ok z (decide ((cnt y:Int)≤M)) e w'∧((cnt y:Int)≤M→z=y)
def Reg (M:Int) (n:Nat):Prop:=n≤4000∧(M=4000∨(M=4611686018427387903∧n≤60))
theorem Reg.pos {M:Int} {n:Nat} (h:Reg M n):1≤M∧M≤4611686018427387903:=by
 rcases h.2 with h | h <;> omega
theorem Reg.le {M:Int} {n m:Nat} (h:Reg M n) (hm:m≤n):Reg M m:=⟨by have:=h.1;omega,by rcases h.2 with h | h;exact .inl h;exact .inr ⟨h.1,by omega⟩⟩
theorem Reg.cap {M:Int} {n:Nat} (h:Reg M n) {y:Nat} (hy:(y:Int)≤M) (h2:y≤n * n+5 * n+1):y≤4000:=by
 rcases h.2 with h | h
 ·omega
 ·have:=Nat.mul_le_mul h.2 h.2
  omega
theorem Reg.sum {M:Int} {n k:Nat} (h:Reg M n) {C C' x:Nat} (hk:k<n) (hC:(C:Int)≤2 * M∧(M=4000∨C≤4000 * k)) (hx:x≤4000) (h':(C'≤C+x∨2 * M<(C:Int)+x)∧(C':Int)≤2 * M):(C':Int)≤2 * M∧(M=4000∨C'≤4000 * (k+1)):=by
 refine ⟨h'.2,?_⟩
 rcases h.2 with h1 | h1
 ·exact .inl h1
 ·rcases hC.2 with h2 | h2
  ·exact .inl h2
  ·right
   rcases h'.1 with h3 | h3 <;> omega
theorem Reg.small {M:Int} {n k:Nat} (h:Reg M n) {C:Nat} (hk:k≤n) (hC:(C:Int)≤2 * M∧(M=4000∨C≤4000 * k)):C≤240000:=by
 rcases h.2 with h1 | h1
 ·have:=hC.1
  omega
 ·rcases hC.2 with h2 | h2
  ·have:=hC.1
   omega
  ·omega
theorem fin_nodeC {W0 W:World} {g:Nat} {X:T} {ka:Option Addr} {kc:Nat} {E E':Nat→Prop} (hK:Keep (fun _=>False) W0 W) (hA:At W g 27 nzeros) (hg:W0.heap.size≤g) (hc:X.subs.length≤kc) (hl:Lie W E ka X.subs) (hE:∀ k,E k→E' k∧k≠g) :
  At (putNd W g 0 X ka kc) g 27 (ncells X ka kc)∧X.subs.length≤kc∧Lie (putNd W g 0 X ka kc) E' ka X.subs∧Keep (fun _=>False) W0 (putNd W g 0 X ka kc)∧W0.heap.size≤g:=by
 have q:=putNd_keep W g 0 X ka kc
 exact ⟨set8 hA (.int .i64 X.kind) (.int .u64 X.set.x0) (.int .u64 X.set.x1) (.int .u64 X.set.x2) (.int .u64 X.set.x3) (.int .i64 X.mn) (.int .i64 X.mx) (.slice ka X.subs.length kc),hc,
  (hl.keep q (fun b hb e=>(hE b hb).2 e)).mono fun k hk=>(hE k hk).1,hK.next q (fun i h hi=>by have h:i=g:=h;omega),hg⟩
theorem byL_mapC (b:Nat):∀ l:List T,byL b l=l.map (byT b)
 | []=>by rw [byL];rfl
 | t::l=>by rw [byL,byL_mapC b l];rfl
theorem ofd_no {w W:World} {n:Nat} {ok:Nat→Prop} {y:T} {M:Int} (hR:Rb w n W) (h:¬ (cnt y:Int)≤M):At (putNd W n 0 zT none 0) n 27 (ncells zT none 0)∧Ofd w ok y M (.returned (.tuple #[nodeV zT none 0,.bool false])) (putNd W n 0 zT none 0):=by
 refine ⟨(hR.put zT none 0).1,zT,?_,fun h2=>absurd h2 h⟩
 rw [decide_eq_false h];exact giveB (hR.gives (t:=zT) (Nat.le_refl 0) (.nil none))
def BhOk (b:Nat) (M:Int) (t:T):Prop:=Rs t→Reg M (cnt t)→∀ (bl o:Nat) (a:Option Addr) (c:Nat) (ok:Nat→Prop) (w:World),NodeP w bl o t a c→Lie w ok a t.subs→t.subs.length≤c →
 Calls Try.prog 19 #[bhV b M,.pointer (some ⟨bl,o,none⟩)] w (Ofd w ok (byT b t) M)
theorem ofAlt_any (b:Nat) (M:Int) (L:List T) (hOf:∀ t ∈ L,BhOk b M t) (hRs:∀ t ∈ L,Rs t) (hReg:Reg M (cntL L)) (a:Option Addr) (cap:Nat) (ok:Nat→Prop) (w:World) (hL:Lie w ok a L) (hcap:L.length≤cap) :
  Calls Try.prog 35 #[bhV b M,.slice a L.length cap] w (Ofd w ok (altT (byL b L)) M):=by
 have hlen:=hL.len;obtain ⟨n0,hn0⟩:∃ n0,w.heap.size+1+1=n0:=⟨_,rfl⟩;obtain ⟨tt,htt⟩:∃ tt,altT (byL b L)=tt:=⟨_,rfl⟩;rw [htt];have HT:=hid htt;have q0:=(((Keep.refl (fun _=>False) w).alloc (.cells #[.int .u8 (b:Int),.int .i64 M] 47)).alloc (.cells nzeros 27)).alloc (.cells #[.slice none 0 0,.int .i64 0,.int .i64 M] 85)
 have a0:=((At.new w #[.int .u8 (b:Int),.int .i64 M] 47).alloc (.cells nzeros 27)).alloc (.cells #[.slice none 0 0,.int .i64 0,.int .i64 M] 85);have a1:=(At.new (w.alloc (.cells #[.int .u8 (b:Int),.int .i64 M] 47)) nzeros 27).alloc (.cells #[.slice none 0 0,.int .i64 0,.int .i64 M] 85);rw [show (w.alloc (.cells #[.int .u8 (b:Int),.int .i64 M] 47)).heap.size=w.heap.size+1 from by simp] at a1
 have a2:=At.new ((w.alloc (.cells #[.int .u8 (b:Int),.int .i64 M] 47)).alloc (.cells nzeros 27)) #[.slice none 0 0,.int .i64 0,.int .i64 M] 85;rw [show ((w.alloc (.cells #[.int .u8 (b:Int),.int .i64 M] 47)).alloc (.cells nzeros 27)).heap.size=w.heap.size+2 from by simp] at a2
 have HA:=hid (And.intro a0 (And.intro a1 (And.intro a2 q0)));have HL:=hid (And.intro hL.under hcap);have H0:=hid (And.intro hOf (And.intro hRs hReg));have hs0:((((w.alloc (.cells #[.int .u8 (b:Int),.int .i64 M] 47)).alloc (.cells nzeros 27)).alloc (.cells #[.slice none 0 0,.int .i64 0,.int .i64 M] 85))).heap.size=w.heap.size+3:=by simp
 have HS0:=hid (And.intro hs0 (show w.heap.size+2=n0 by omega))
 clear q0 a0 a1 a2 hL hcap hOf hRs hReg hs0 htt
 go_enter Try.func35,Try.ntmps35
 go_upto_region 2 with fail;generalize ((w.alloc (.cells #[.int .u8 (b:Int),.int .i64 M] 47)).alloc (.cells nzeros 27)).alloc (.cells #[.slice none 0 0,.int .i64 0,.int .i64 M] 85)=W0 at *
 have I0:=hid (show Sm W0 (fun k=>ok k∧k<w.heap.size) n0 n0 (.slice none 0 0) [] M from
  ⟨by rw [← HS0.out.2];exact HA.out.2.2.1,OE.nil _ _,Own.nil _,(fun e=>by cases e)⟩)
 go_wp2_with fail
 go_loopg [7,8,9,15] L.length (fun gg s7 s8 s9 i wr=>∃ (k:Nat) (v:Value) (X:List T),i=.int .i64 k∧k+gg=L.length∧Sm wr (fun k=>ok k∧k<w.heap.size) n0 n0 v X M∧(∀ t ∈ X,Rs t)∧aS X=aS (byL b (L.take k))∧((cntL X:Int)≤2 * M∧(M=4000∨cntL X≤4000 * k))∧Keep (fun k=>k=n0) W0 wr∧At wr w.heap.size 47 #[.int .u8 (b:Int),.int .i64 M]∧At wr (w.heap.size+1) 27 nzeros)
 case atStart=>exact ⟨0,_,[],rfl,by omega,I0.out,(by simp),rfl,⟨by have:=H0.out.2.2.pos;rw [cntL];omega,.inr (by rw [cntL];omega)⟩,Keep.refl _ _,HA.out.1,HA.out.2.1⟩
 case round =>
  obtain ⟨k,v,X,rfl,hk,hS,hX,hXa,hXb,hq,hbx,hrs⟩:=hrel;have k0:(0:Int)≤k:=by omega
  have hz:=HS0.out;have hql:=hq.size;have HZ:=hid (show w.heap.size+2=n0∧n0<wr.heap.size by omega)
  have hb0:=hbx.cell (o:=0) rfl;have hb1:=hbx.cell (o:=1) rfl;have KW:=hid (HA.out.2.2.2.next hq (fun i (e:i=n0) hi=>by omega))
  clear hz hql
  by_cases hlt:k<L.length
  ·have hlt':(k:Int)<L.length:=by omega
   obtain ⟨t,ht⟩:∃ t,L[k]?=some t:=⟨L[k],List.getElem?_eq_getElem hlt⟩;have htm:=List.mem_of_getElem? ht;obtain ⟨bl,off,a1,c1,rfl,hokb,hbl,le1,L1,C1⟩:=(HL.out.1.keepF KW.out).get ht;have N1:NodeP wr bl (off+k * 8) t a1 c1:=⟨hbl,C1⟩;have hRt:=H0.out.2.1 t htm;have hct:cnt t≤cntL L:=cntL_le ht;have hRegt:=H0.out.2.2.le hct;obtain ⟨lb,hlb⟩:∃ lb,byT b t=lb:=⟨_,rfl⟩;obtain ⟨B,hB⟩:∃ B,decide ((cnt lb:Int)≤M)=B:=⟨_,rfl⟩;have hbr:=by_rs b t hRt;rw [hlb] at hbr;have HOf:=hid (fun W (q:Keep (fun _=>False) wr W)=>H0.out.1 t htm hRt hRegt bl (off+k * 8) a1 c1 (fun k=>ok k∧k<w.heap.size) W (N1.keepF q) (L1.keepF q) le1)
   unfold Ofd at HOf;rw [hlb,hB] at HOf;have HOwn:=hid (show (∀ k,v.ownBlock=some k→n0≤k)∧∀ k,v.ownBlock=some k→k<wr.heap.size from ⟨hS.own,fun k hk=>hS.row.lt hk⟩)
   have htk:byL b (L.take (k+1))=byL b (L.take k)++[lb]:=by
    rw [byL_mapC,byL_mapC,List.take_add_one,ht,List.map_append,← hlb]
    rfl
   have hpre:byL b L=byL b (L.take (k+1))++byL b (L.drop (k+1)):=by
    rw [byL_mapC,byL_mapC,byL_mapC,← List.map_append,List.take_append_drop]
   have HI:=hid (And.intro hS (And.intro hX (And.intro hXa (And.intro hXb (And.intro hq (And.intro hbx hrs))))));have HTk:=hid (And.intro htk (And.intro hpre (And.intro hbr (And.intro hB (And.intro (show lb ∈ byL b L by rw [byL_mapC,← hlb];exact List.mem_map.2 ⟨t,htm,rfl⟩) (show cnt lb≤cnt t * cnt t+5 * cnt t+1 by have:=hbr.2;omega))))))
   have HS:=hid (fun (W':World) (q:Keep (fun _=>False) wr W')=>(show W'.cell? ⟨w.heap.size,0,none⟩=some (.int .u8 (b:Int))∧W'.cell? ⟨w.heap.size,1,none⟩=some (.int .i64 M) from ⟨(HI.out.2.2.2.2.2.1.keep q (fun h=>h)).cell (o:=0) rfl,(HI.out.2.2.2.2.2.1.keep q (fun h=>h)).cell (o:=1) rfl⟩))
   have Kc:=hid ((Keep.refl (fun _=>False) wr).drew)
   have HR1:=hid hRegt;clear hS hX hXa hXb hq hbx hrs N1 L1 C1 htk hpre hbr hlb hB hRt hRegt hct htm ht hokb hbl;go_upto_region 5 with fail
   go_cut [8,9] from 16 to 34 (fun x y wx=>∃ g lf ja jc,x=.pointer (some ⟨g,0,none⟩)∧y=.bool B∧(At wx g 27 (ncells lf ja jc)∧lf.subs.length≤jc∧Lie wx (fun k=>smE (fun k=>ok k∧k<w.heap.size) n0 n0 v k) ja lf.subs∧Keep (fun _=>False) wr wx∧wr.heap.size≤g)∧((cnt lb:Int)≤M→lf=lb))
   case first =>
    refine wp_region_noPanic ?_;refine wp_region_held_drew (S:=(fun W=>W.cell? ⟨w.heap.size,0,none⟩=some (.int .u8 b)∧W.cell? ⟨w.heap.size,1,none⟩=some (.int .i64 M))) (by kernel_rfl) ?_ (fun hHeld=>?_)
    ·exact HS.out _ ((Keep.refl _ _).drew)
    refine wpAnyH_take (i:=0) (oi:=⟨_,_,_,_,_,_⟩) (v:=?_) rfl (by kernel_rfl) (by kernel_rfl) (by kernel_rfl) (fun _ _ _ h=>h) (Or.inl ⟨by rfl,?_⟩) (by assumption) ?_
    rotate_left 1
    ·(intro w hSw;(try dsimp only at hSw);go_simp;first | done | with_reducible rfl)
    try simp only [Act.put,List.setIfInBounds_toArray,List.set_cons_zero,List.set_cons_succ]
    refine wpAnyH_take (i:=1) (oi:=⟨_,_,_,_,_,_⟩) (v:=?_) rfl (by kernel_rfl) (by kernel_rfl) (by kernel_rfl) (fun _ _ _ h=>h) (Or.inl ⟨by rfl,?_⟩) (by assumption) ?_
    rotate_left 1
    ·(intro w hSw;(try dsimp only at hSw);go_simp;first | done | with_reducible rfl)
    try simp only [Act.put,List.setIfInBounds_toArray,List.set_cons_zero,List.set_cons_succ]
    refine wpAnyH_take (i:=2) (oi:=⟨_,_,_,_,_,_⟩) (v:=?_) rfl (by kernel_rfl) (by kernel_rfl) (by kernel_rfl) (fun _ _ _ h=>h) (Or.inl ⟨by rfl,?_⟩) (by assumption) ?_
    rotate_left 1
    ·(intro w hSw;(try dsimp only at hSw);go_simp;first | done | with_reducible rfl)
    try simp only [Act.put,List.setIfInBounds_toArray,List.set_cons_zero,List.set_cons_succ]
    refine wpAnyH_take (i:=3) (oi:=⟨_,_,_,_,_,_⟩) (v:=?_) rfl (by kernel_rfl) (by kernel_rfl) (by kernel_rfl) (fun _ _ _ h=>h) (Or.inl ⟨by rfl,?_⟩) (by assumption) ?_
    rotate_left 1
    ·(intro w hSw;(try dsimp only at hSw);go_simp;first | done | with_reducible rfl)
    try simp only [Act.put,List.setIfInBounds_toArray,List.set_cons_zero,List.set_cons_succ]
    refine wpAnyH_ready (rs:=[4,8]) (by kernel_rfl) (by simp) ?_
    refine (AllReadyH.cons (o:=⟨_,_,_,_,_,_⟩) rfl (fun K hK=>?_) (AllReadyH.cons (o:=⟨_,_,_,_,_,_⟩) rfl (fun K hK=>?_) AllReadyH.nil))
    go_simp
    (go_at_call 19;refine (HOf.out _ Kc.out).mono ?_;rintro e w5 ⟨lf,⟨⟨vv,rfl,ja,jc,rfl,hle,hlie⟩,q5⟩,hlf⟩)
    have Nc:=hid (And.intro hle (hlie.mono (ok':=fun k=>smE (fun k=>ok k∧k<w.heap.size) n0 n0 v k) (fun k hk=>by have z1:=Kc.out.size;have z2:=HZ.out;rcases hk with hk | hk;exact ⟨.inl hk,by have:=hk.2;omega,fun e=>by have:=HOwn.out.1 k e;have:=hk.2;omega⟩;exact ⟨.inr (by omega),by omega,fun e=>by have:=HOwn.out.2 k e;omega⟩)))
    have HLf:=hid hlf;have Kc:=hid (Kc.out.trans q5);clear hle hlie q5 hlf;refine hK.out _ _ ?_ (fun hHeld'=>?_)
    ·exact HS.out _ Kc.out
    clear hK K hHeld;have hHeld:=hHeld';clear hHeld'
    try simp only [Act.put,List.setIfInBounds_toArray,List.set_cons_zero,List.set_cons_succ]
    refine wpAnyH_take (i:=5) (oi:=⟨_,_,_,_,_,_⟩) (v:=?_) rfl (by kernel_rfl) (by kernel_rfl) (by kernel_rfl) (fun _ _ _ h=>h) (Or.inl ⟨by rfl,?_⟩) (by assumption) ?_
    rotate_left 1
    ·(intro w hSw;(try dsimp only at hSw);go_simp;first | done | with_reducible rfl)
    try simp only [Act.put,List.setIfInBounds_toArray,List.set_cons_zero,List.set_cons_succ]
    refine wpAnyH_take (i:=6) (oi:=⟨_,_,_,_,_,_⟩) (v:=?_) rfl (by kernel_rfl) (by kernel_rfl) (by kernel_rfl) (fun _ _ _ h=>h) (Or.inl ⟨by rfl,?_⟩) (by assumption) ?_
    rotate_left 1
    ·(intro w hSw;(try dsimp only at hSw);go_simp;first | done | with_reducible rfl)
    try simp only [Act.put,List.setIfInBounds_toArray,List.set_cons_zero,List.set_cons_succ]
    refine wpAnyH_take (i:=7) (oi:=⟨_,_,_,_,_,_⟩) (v:=?_) rfl (by kernel_rfl) (by kernel_rfl) (by kernel_rfl) (fun _ _ _ h=>h) (Or.inl ⟨by rfl,?_⟩) (by assumption) ?_
    rotate_left 1
    ·(intro w hSw;(try dsimp only at hSw);go_simp;first | done | with_reducible rfl)
    try simp only [Act.put,List.setIfInBounds_toArray,List.set_cons_zero,List.set_cons_succ]
    refine wpAnyH_ready (rs:=[8]) (by kernel_rfl) (by simp) ?_
    refine (AllReadyH.cons (o:=⟨_,_,_,_,_,_⟩) rfl (fun K hK=>?_) AllReadyH.nil)
    obtain ⟨g,hg⟩:∃ g,(w5).heap.size=g:=⟨_,rfl⟩;have hA:=At.new (w5) nzeros 27;rw [hg] at hA;have hAg:wr.heap.size≤g:=by rw [← hg];exact Kc.out.size
    have Nc:=hid (And.intro Nc.out.1 ((Nc.out.2.under.keepF ((Keep.refl (fun _=>False) (w5)).alloc (.cells nzeros 27))).mono (ok':=fun k=>smE (fun k=>ok k∧k<w.heap.size) n0 n0 v k∧k≠g) (fun k h=>⟨h.1,by have:=h.2;omega⟩)))
    have Kc:=hid (Kc.out.trans ((Keep.refl (fun _=>False) (w5)).alloc (.cells nzeros 27)))
    have Ac:=hid (And.intro hA hAg);clear hA hAg;go_simp;refine hK.out _ (w5.alloc (.cells nzeros 27)) ?_ (fun hHeld'=>?_)
    ·exact HS.out _ Kc.out
    clear hK K hHeld;have hHeld:=hHeld';clear hHeld';generalize (w5.alloc (.cells nzeros 27))=wA at *
    try simp only [Act.put,List.setIfInBounds_toArray,List.set_cons_zero,List.set_cons_succ]
    refine wpAnyH_ready (rs:=[9]) (by kernel_rfl) (by simp) ?_
    refine (AllReadyH.cons (o:=⟨_,_,_,_,_,_⟩) rfl (fun K hK=>?_) AllReadyH.nil)
    obtain ⟨⟨d0,d1,d2,d3,d4,d5,d6,d7⟩,f0,f1,f2,f3,f4,f5,f6,f7⟩:=cells8 Ac.out.1;have hlt:=Ac.out.1.lt;have HF:=hid (fin_nodeC (X:=lf) (E':=fun k=>smE (fun k=>ok k∧k<w.heap.size) n0 n0 v k) Kc.out Ac.out.1 Ac.out.2 Nc.out.1 Nc.out.2 (fun k h=>⟨h.1,h.2⟩))
    go_simp;refine hK.out _ (putNd wA g 0 lf ja jc) ?_ (fun hHeld'=>?_)
    ·exact HS.out _ HF.out.2.2.2.1
    clear hK K hHeld;have hHeld:=hHeld';clear hHeld';generalize (putNd wA g 0 lf ja jc)=wP at *
    try simp only [Act.put,List.setIfInBounds_toArray,List.set_cons_zero,List.set_cons_succ]
    refine wpAnyH_take (i:=10) (oi:=⟨_,_,_,_,_,_⟩) (v:=?_) rfl (by kernel_rfl) (by kernel_rfl) (by kernel_rfl) (fun _ _ _ h=>h) (Or.inl ⟨by rfl,?_⟩) (by assumption) ?_
    rotate_left 1
    ·(intro w hSw;(try dsimp only at hSw);go_simp;first | done | with_reducible rfl)
    try simp only [Act.put,List.setIfInBounds_toArray,List.set_cons_zero,List.set_cons_succ]
    refine wpAnyH_done (by kernel_rfl) ?_ _
    refine NoPanic.normal ?_;rotate_left 1;obtain ⟨g,hg⟩:∃ g,(wr.drew).heap.size=g:=⟨_,rfl⟩;have hA:=At.new (wr.drew) nzeros 27;rw [hg] at hA;have hAg:wr.heap.size≤g:=by rw [← hg];exact Kc.out.size
    have Kc:=hid (Kc.out.trans ((Keep.refl (fun _=>False) (wr.drew)).alloc (.cells nzeros 27)))
    have Ac:=hid (And.intro hA hAg);clear hA hAg;go_simp;refine hK.out _ (wr.drew.alloc (.cells nzeros 27)) ?_ (fun hHeld'=>?_)
    ·exact HS.out _ Kc.out
    clear hK K hHeld;have hHeld:=hHeld';clear hHeld';generalize (wr.drew.alloc (.cells nzeros 27))=wA at *
    try simp only [Act.put,List.setIfInBounds_toArray,List.set_cons_zero,List.set_cons_succ]
    refine wpAnyH_ready (rs:=[4]) (by kernel_rfl) (by simp) ?_
    refine (AllReadyH.cons (o:=⟨_,_,_,_,_,_⟩) rfl (fun K hK=>?_) AllReadyH.nil)
    go_simp
    (go_at_call 19;refine (HOf.out _ Kc.out).mono ?_;rintro e w5 ⟨lf,⟨⟨vv,rfl,ja,jc,rfl,hle,hlie⟩,q5⟩,hlf⟩)
    have Nc:=hid (And.intro hle (hlie.mono (ok':=fun k=>smE (fun k=>ok k∧k<w.heap.size) n0 n0 v k∧k≠g) (fun k hk=>by have z1:=Kc.out.size;have z2:=HZ.out;have z3:=Ac.out.1.lt;have z4:=Ac.out.2;rcases hk with hk | hk;exact ⟨⟨.inl hk,by have:=hk.2;omega,fun e=>by have:=HOwn.out.1 k e;have:=hk.2;omega⟩,by have:=hk.2;omega⟩;exact ⟨⟨.inr (by omega),by omega,fun e=>by have:=HOwn.out.2 k e;omega⟩,by omega⟩)))
    have HLf:=hid hlf;have Ac:=hid (And.intro (Ac.out.1.keep q5 (fun h=>h)) Ac.out.2)
    have Kc:=hid (Kc.out.trans q5);clear hle hlie q5 hlf;refine hK.out _ _ ?_ (fun hHeld'=>?_)
    ·exact HS.out _ Kc.out
    clear hK K hHeld;have hHeld:=hHeld';clear hHeld'
    try simp only [Act.put,List.setIfInBounds_toArray,List.set_cons_zero,List.set_cons_succ]
    refine wpAnyH_take (i:=5) (oi:=⟨_,_,_,_,_,_⟩) (v:=?_) rfl (by kernel_rfl) (by kernel_rfl) (by kernel_rfl) (fun _ _ _ h=>h) (Or.inl ⟨by rfl,?_⟩) (by assumption) ?_
    rotate_left 1
    ·(intro w hSw;(try dsimp only at hSw);go_simp;first | done | with_reducible rfl)
    try simp only [Act.put,List.setIfInBounds_toArray,List.set_cons_zero,List.set_cons_succ]
    refine wpAnyH_take (i:=6) (oi:=⟨_,_,_,_,_,_⟩) (v:=?_) rfl (by kernel_rfl) (by kernel_rfl) (by kernel_rfl) (fun _ _ _ h=>h) (Or.inl ⟨by rfl,?_⟩) (by assumption) ?_
    rotate_left 1
    ·(intro w hSw;(try dsimp only at hSw);go_simp;first | done | with_reducible rfl)
    try simp only [Act.put,List.setIfInBounds_toArray,List.set_cons_zero,List.set_cons_succ]
    refine wpAnyH_take (i:=7) (oi:=⟨_,_,_,_,_,_⟩) (v:=?_) rfl (by kernel_rfl) (by kernel_rfl) (by kernel_rfl) (fun _ _ _ h=>h) (Or.inl ⟨by rfl,?_⟩) (by assumption) ?_
    rotate_left 1
    ·(intro w hSw;(try dsimp only at hSw);go_simp;first | done | with_reducible rfl)
    try simp only [Act.put,List.setIfInBounds_toArray,List.set_cons_zero,List.set_cons_succ]
    refine wpAnyH_ready (rs:=[9]) (by kernel_rfl) (by simp) ?_
    refine (AllReadyH.cons (o:=⟨_,_,_,_,_,_⟩) rfl (fun K hK=>?_) AllReadyH.nil)
    obtain ⟨⟨d0,d1,d2,d3,d4,d5,d6,d7⟩,f0,f1,f2,f3,f4,f5,f6,f7⟩:=cells8 Ac.out.1;have hlt:=Ac.out.1.lt;have HF:=hid (fin_nodeC (X:=lf) (E':=fun k=>smE (fun k=>ok k∧k<w.heap.size) n0 n0 v k) Kc.out Ac.out.1 Ac.out.2 Nc.out.1 Nc.out.2 (fun k h=>⟨h.1,h.2⟩))
    go_simp;refine hK.out _ (putNd w5 g 0 lf ja jc) ?_ (fun hHeld'=>?_)
    ·exact HS.out _ HF.out.2.2.2.1
    clear hK K hHeld;have hHeld:=hHeld';clear hHeld';generalize (putNd w5 g 0 lf ja jc)=wP at *
    try simp only [Act.put,List.setIfInBounds_toArray,List.set_cons_zero,List.set_cons_succ]
    refine wpAnyH_take (i:=10) (oi:=⟨_,_,_,_,_,_⟩) (v:=?_) rfl (by kernel_rfl) (by kernel_rfl) (by kernel_rfl) (fun _ _ _ h=>h) (Or.inl ⟨by rfl,?_⟩) (by assumption) ?_
    rotate_left 1
    ·(intro w hSw;(try dsimp only at hSw);go_simp;first | done | with_reducible rfl)
    try simp only [Act.put,List.setIfInBounds_toArray,List.set_cons_zero,List.set_cons_succ]
    refine wpAnyH_done (by kernel_rfl) ?_ _
    refine NoPanic.normal ?_;rotate_left 1
    all_goals
     go_wp2_with fail
     go_meet
     case rel=>exact ⟨g,lf,ja,jc,rfl,rfl,HF.out,HLf.out⟩
   case rest =>
    obtain ⟨g,lf,ja,jc,rfl,rfl,⟨hA,hle,hlie,hK,hg⟩,hlf⟩:=hcut;have hbad:∀ z ∈ byL b L,¬ (cnt z:Int)≤M→¬ (cnt tt:Int)≤M:=fun z hz h1 h2=>by
     have h3:=alt_ge (byL_rs b L H0.out.2.1).1 hz;rw [HT.out] at h3;omega
    have HBad:=hid hbad;have R6:=hid (show Rb w (w.heap.size+1) wc from ⟨HI.out.2.2.2.2.2.2.keep hK (fun h=>h),KW.out.trans hK,by omega⟩)
    have HC:=hid (And.intro hA (And.intro hle (And.intro hlie (And.intro hK hg))));obtain ⟨⟨y0,y1,y2,y3,y4,y5,y6,y7⟩,-⟩:=cells8 hA;clear hbad hA hle hlie hK hg hb0 hb1
    cases B
    ·have HNo:=hid (HBad.out lb HTk.out.2.2.2.2.1 (of_decide_eq_false HTk.out.2.2.2.1))
     obtain ⟨⟨d0,d1,d2,d3,d4,d5,d6,d7⟩,f0,f1,f2,f3,f4,f5,f6,f7⟩:=cells8 R6.out.out;have hlt6:=R6.out.out.lt;clear hlf;go_wp2_with fail
     change bodyPost _ _ _ _ _ (putNd wc (w.heap.size+1) 0 zT none 0)
     have hP:=ofd_no (ok:=ok) (y:=tt) (M:=M) R6.out (by have:=HNo.out;omega)
     generalize (putNd wc (w.heap.size+1) 0 zT none 0)=W8 at hP ⊢;obtain ⟨⟨e0,e1,e2,e3,e4,e5,e6,e7⟩,-⟩:=cells8 hP.1;exact bodyPost_ret (v:=.tuple #[nodeV zT none 0,.bool false]) (by simp [results,Try.results35,go_sem,e0,e1,e2,e3,e4,e5,e6,e7]) rfl hP.2
    ·have hlm:=of_decide_eq_true HTk.out.2.2.2.1
     obtain rfl:lf=lb:=hlf hlm;have hl4:=HR1.out.cap hlm HTk.out.2.2.2.2.2;have HAdd:=hid (add_any wc (HI.out.1.keepF HC.out.2.2.2.1) HI.out.2.1 (H0.out.2.2.small (k:=k) (by have:=lenL L;omega) HI.out.2.2.2.1) HI.out.2.2.2.1.1 H0.out.2.2.pos (Nat.le_refl n0) lf HTk.out.2.2.1.1 hl4 ja jc HC.out.2.1 HC.out.2.2.1)
     have HL4:=hid hl4;clear hlm hl4 hlf;go_wp2_with fail;refine HAdd.out.mono ?_;rintro e w6 ⟨B2,v',X',rfl,hS',hX',ha',hf',ht',hK',ho'⟩;have haX:aS X'=aS (byL b (L.take (k+1))):=by
      rw [ha',HTk.out.1];exact aS_more HI.out.2.2.1 [lf]
     have hn01:=HS0.out;have hown:∀ i,v.ownBlock=some i→n0+1≤i:=fun i e=>by
      have h1:=HOwn.out.1 i e;have h2:i≠n0:=fun e2=>HI.out.1.sne (by rw [e,e2])
      omega
     have hne:∀ i,i<n0→¬ (i=n0∨v.ownBlock=some i):=fun i hi e=>by
      rcases e with e | e
      ·omega
      ·have:=hown i e
       omega
     have R7:=hid (show Rb w (w.heap.size+1) w6 from ⟨R6.out.out.keep hK' (hne _ (by omega)),R6.out.keep.next hK' (fun i e hi=>hne i (by omega) e),R6.out.lt⟩)
     have HF6:=hid (And.intro haX (And.intro hf' ht'))
     have HN6:=hid (show Sm w6 (fun k=>ok k∧k<w.heap.size) n0 n0 v' X' M∧(∀ t ∈ X',Rs t)∧Keep (fun k=>k=n0) W0 w6∧At w6 w.heap.size 47 #[.int .u8 (b:Int),.int .i64 M] from
      ⟨hS',hX',((HI.out.2.2.2.2.1.trans (HC.out.2.2.2.1.mono (fun _ h=>h.elim))).next hK' (fun i e hi=>by
       rcases e with e | e
       ·exact e
       ·have:=hown i e
        omega)),(HI.out.2.2.2.2.2.1.keep HC.out.2.2.2.1 (fun h=>h)).keep hK' (hne _ (by omega))⟩)
     clear hS' hX' ha' hf' ht' hK' ho' haX hn01 hown hne y0 y1 y2 y3 y4 y5 y6 y7
     cases B2
     ·have HNo:=hid (show ¬ (cnt tt:Int)≤M from fun h=>by
       have h1:=HF6.out.2.1 rfl;have h2:=aS_alt (aS_more HI.out.2.2.1 [lf]);rw [← HTk.out.1] at h2;rw [h2] at h1;have h3:=alt_mono (byL b (L.take (k+1))) (byL b (L.drop (k+1)));rw [← HTk.out.2.1,HT.out] at h3
       omega)
      obtain ⟨⟨d0,d1,d2,d3,d4,d5,d6,d7⟩,f0,f1,f2,f3,f4,f5,f6,f7⟩:=cells8 R7.out.out;have hlt6:=R7.out.out.lt;go_wp2_with fail
      change bodyPost _ _ _ _ _ (putNd w6 (w.heap.size+1) 0 zT none 0)
      have hP:=ofd_no (ok:=ok) (y:=tt) (M:=M) R7.out (by have:=HNo.out;omega)
      generalize (putNd w6 (w.heap.size+1) 0 zT none 0)=W8 at hP ⊢;obtain ⟨⟨e0,e1,e2,e3,e4,e5,e6,e7⟩,-⟩:=cells8 hP.1;exact bodyPost_ret (v:=.tuple #[nodeV zT none 0,.bool false]) (by simp [results,Try.results35,go_sem,e0,e1,e2,e3,e4,e5,e6,e7]) rfl hP.2
     ·have hbd:=H0.out.2.2.sum (k:=k) (by have:=lenL L;omega) HI.out.2.2.2.1 HL4.out (HF6.out.2.2 rfl)
      have HBd:=hid hbd;clear hbd;go_wp2_with fail
      go_roundg (L.length - (k+1))
      case measure=>omega
      case rel=>exact ⟨k+1,v',X',by go_num,by omega,HN6.out.1,HN6.out.2.1,HF6.out.1,HBd.out,HN6.out.2.2.1,HN6.out.2.2.2,R7.out.out⟩
  ·have hke:k=L.length:=by omega
   subst hke;rw [List.take_length] at hXa;have hTT:altT X=tt:=by rw [aS_alt hXa,HT.out]
   obtain ⟨B,hB⟩:∃ B,decide ((cnt tt:Int)≤M)=B:=⟨_,rfl⟩;have HWh:=hid (whole_any wr hS.at_ hS.row hS.sne hX (by have:=H0.out.2.2.small (k:=L.length) (lenL L) hXb;omega) (M:=M) (B:=B) (by rw [hTT];exact hB))
   rw [hTT] at HWh;have R6:=hid (show Rb w (w.heap.size+1) wr from ⟨hrs,KW.out,by omega⟩)
   have HB9:=hid hB;clear hS hX hXa hXb hq hbx hrs hTT hB hb0 hb1;go_wp2_with fail;refine HWh.out.mono ?_;rintro e w6 ⟨⟨vv,rfl,ka,kc,rfl,hle,hlie⟩,q6⟩;have R7:=hid (R6.out.next q6)
   have N7:=hid (And.intro hle (hlie.mono (ok':=fun k=>(ok k∨w.heap.size≤k)∧k≠w.heap.size+1) (fun k hk=>by
    have h1:=HZ.out
    rcases hk with hk | hk
    ·rcases hk.1 with h2 | h2
     ·exact ⟨.inl h2.1,by have:=h2.2;omega⟩
     ·exact ⟨.inr (by omega),by omega⟩
    ·exact ⟨.inr (by omega),by omega⟩)))
   clear hle hlie q6;obtain ⟨⟨d0,d1,d2,d3,d4,d5,d6,d7⟩,f0,f1,f2,f3,f4,f5,f6,f7⟩:=cells8 R7.out.out;have hlt6:=R7.out.out.lt;go_wp2_with fail
   change bodyPost _ _ _ _ _ (putNd w6 (w.heap.size+1) 0 tt ka kc)
   have hP:=R7.out.put tt ka kc;have hG:=R7.out.gives (ok:=ok) (t:=tt) N7.out.1 N7.out.2;generalize (putNd w6 (w.heap.size+1) 0 tt ka kc)=W8 at hP hG ⊢;obtain ⟨⟨e0,e1,e2,e3,e4,e5,e6,e7⟩,-⟩:=cells8 hP.1;exact bodyPost_ret (v:=.tuple #[nodeV tt ka kc,.bool B]) (by simp [results,Try.results35,go_sem,e0,e1,e2,e3,e4,e5,e6,e7]) rfl ⟨tt,by rw [HB9.out];exact giveB hG,fun _=>rfl⟩
end P12
namespace P12
open Go.RowKit Base Bytes P07 P08 P09 P10
open Sets (ST)
theorem ofCat_any (b:Nat) (M:Int) (L:List T) (hOf:∀ t ∈ L,BhOk b M t) (hRs:∀ t ∈ L,Rs t) (hSi:∀ u ∈ L,u.kind≠3∧u.kind≠1∧isNo u=false) (hne0:L≠[]) (hReg:Reg M (cntL L)) (a:Option Addr) (cap:Nat) (ok:Nat→Prop) (w:World) (hL:Lie w ok a L) (hcap:L.length≤cap) :
  Calls Try.prog 34 #[bhV b M,.slice a L.length cap] w (Ofd w ok (byC b L) M):=by
 have hlen:=hL.len;obtain ⟨n0,hn0⟩:∃ n0,w.heap.size+1+1=n0:=⟨_,rfl⟩;obtain ⟨tt,htt⟩:∃ tt,byC b L=tt:=⟨_,rfl⟩;rw [htt];rw [byC_pC b L hRs hne0] at htt;have HT:=hid htt;have q0:=(((Keep.refl (fun _=>False) w).alloc (.cells #[.int .u8 (b:Int),.int .i64 M] 47)).alloc (.cells nzeros 27)).alloc (.cells #[.slice none 0 0,.int .i64 0,.int .i64 M] 85)
 have a0:=((At.new w #[.int .u8 (b:Int),.int .i64 M] 47).alloc (.cells nzeros 27)).alloc (.cells #[.slice none 0 0,.int .i64 0,.int .i64 M] 85);have a1:=(At.new (w.alloc (.cells #[.int .u8 (b:Int),.int .i64 M] 47)) nzeros 27).alloc (.cells #[.slice none 0 0,.int .i64 0,.int .i64 M] 85);rw [show (w.alloc (.cells #[.int .u8 (b:Int),.int .i64 M] 47)).heap.size=w.heap.size+1 from by simp] at a1
 have a2:=At.new ((w.alloc (.cells #[.int .u8 (b:Int),.int .i64 M] 47)).alloc (.cells nzeros 27)) #[.slice none 0 0,.int .i64 0,.int .i64 M] 85;rw [show ((w.alloc (.cells #[.int .u8 (b:Int),.int .i64 M] 47)).alloc (.cells nzeros 27)).heap.size=w.heap.size+2 from by simp] at a2
 have HA:=hid (And.intro a0 (And.intro a1 (And.intro a2 q0)));have HL:=hid (And.intro hL.under hcap);have H0:=hid (And.intro hOf (And.intro hRs hReg));have HSi:=hid hSi;have hs0:((((w.alloc (.cells #[.int .u8 (b:Int),.int .i64 M] 47)).alloc (.cells nzeros 27)).alloc (.cells #[.slice none 0 0,.int .i64 0,.int .i64 M] 85))).heap.size=w.heap.size+3:=by simp
 have HS0:=hid (And.intro hs0 (show w.heap.size+2=n0 by omega))
 clear q0 a0 a1 a2 hL hcap hOf hRs hSi hne0 hReg hs0 htt
 go_enter Try.func34,Try.ntmps34
 go_upto_region 2 with fail;generalize ((w.alloc (.cells #[.int .u8 (b:Int),.int .i64 M] 47)).alloc (.cells nzeros 27)).alloc (.cells #[.slice none 0 0,.int .i64 0,.int .i64 M] 85)=W0 at *
 have I0:=hid (show Sm W0 (fun k=>ok k∧k<w.heap.size) n0 n0 (.slice none 0 0) [] M from
  ⟨by rw [← HS0.out.2];exact HA.out.2.2.1,OE.nil _ _,Own.nil _,(fun e=>by cases e)⟩)
 go_wp2_with fail
 go_loopg [7,8,9,15] L.length (fun gg s7 s8 s9 i wr=>∃ (k:Nat) (v:Value) (X D:List T),i=.int .i64 k∧k+gg=L.length∧Sm wr (fun k=>ok k∧k<w.heap.size) n0 n0 v X M∧(∀ t ∈ X,Rs t)∧aS X=aS D∧D++pC b (L.drop k)=pC b L∧((cntL X:Int)≤2 * M∧(M=4000∨cntL X≤4000 * k))∧Keep (fun k=>k=n0) W0 wr∧At wr w.heap.size 47 #[.int .u8 (b:Int),.int .i64 M]∧At wr (w.heap.size+1) 27 nzeros)
 case atStart=>exact ⟨0,_,[],[],rfl,by omega,I0.out,(by simp),rfl,by rw [List.drop_zero];rfl,⟨by have:=H0.out.2.2.pos;rw [cntL];omega,.inr (by rw [cntL];omega)⟩,Keep.refl _ _,HA.out.1,HA.out.2.1⟩
 case round =>
  obtain ⟨k,v,X,D,rfl,hk,hS,hX,hXa,hXd,hXb,hq,hbx,hrs⟩:=hrel;have k0:(0:Int)≤k:=by omega
  have hz:=HS0.out;have hql:=hq.size;have HZ:=hid (show w.heap.size+2=n0∧n0<wr.heap.size by omega)
  have hb0:=hbx.cell (o:=0) rfl;have hb1:=hbx.cell (o:=1) rfl;have KW:=hid (HA.out.2.2.2.next hq (fun i (e:i=n0) hi=>by omega))
  clear hz hql
  by_cases hlt:k<L.length
  ·have hlt':(k:Int)<L.length:=by omega
   obtain ⟨t,ht⟩:∃ t,L[k]?=some t:=⟨L[k],List.getElem?_eq_getElem hlt⟩;have htm:=List.mem_of_getElem? ht;have hadr:∃ bl off,a=some ⟨bl,off,none⟩:=by
    obtain ⟨bl,off,_,_,e,-⟩:=(HL.out.1.keepF KW.out).get ht;exact ⟨bl,off,e⟩
   obtain ⟨bl,off,rfl⟩:=hadr;obtain ⟨bl',off',a1,c1,ev,hokb,hbl,le1,L1,C1⟩:=(HL.out.1.keepF KW.out).get ht;injection ev with ev;injection ev with ev1 ev2;subst ev1 ev2;have N1:NodeP wr bl (off+k * 8) t a1 c1:=⟨hbl,C1⟩;have hRt:=H0.out.2.1 t htm;have hct:cnt t≤cntL L:=cntL_le ht;have hRegt:=H0.out.2.2.le hct;obtain ⟨lb,hlb⟩:∃ lb,byT b t=lb:=⟨_,rfl⟩;obtain ⟨B,hB⟩:∃ B,decide ((cnt lb:Int)≤M)=B:=⟨_,rfl⟩;have hbr:=by_rs b t hRt;rw [hlb] at hbr;have HOf:=hid (fun W (q:Keep (fun _=>False) wr W)=>H0.out.1 t htm hRt hRegt bl (off+k * 8) a1 c1 (fun k=>ok k∧k<w.heap.size) W (N1.keepF q) (L1.keepF q) le1)
   unfold Ofd at HOf;rw [hlb,hB] at HOf;have HOwn:=hid (show (∀ k,v.ownBlock=some k→n0≤k)∧∀ k,v.ownBlock=some k→k<wr.heap.size from ⟨hS.own,fun k hk=>hS.row.lt hk⟩)
   have hdr:L.drop k=t::L.drop (k+1):=by
    rw [List.drop_eq_getElem_cons hlt];have:=(List.getElem?_eq_some_iff.1 ht).2;rw [this]
   obtain ⟨R,hR⟩:∃ R,L.drop (k+1)=R:=⟨_,rfl⟩;have hRm:∀ u ∈ R,u ∈ L:=fun u hu=>by rw [← hR] at hu;exact List.mem_of_mem_drop hu
   have hcR:cnt t+cntL R≤cntL L:=by
    have h1:=cntL_append (L.take k) (L.drop k);rw [List.take_append_drop,hdr,hR,cntL] at h1;omega
   rw [hdr,hR,pC,hlb] at hXd;obtain ⟨fst,hfst⟩:∃ fst,catT (lb::R)=fst:=⟨_,rfl⟩;have hfr:Rs fst:=by rw [← hfst,← hlb];exact first_rs b hRt fun u hu=>H0.out.2.1 u (hRm u hu)
   rw [hfst] at hXd;have hfc:cnt fst≤cntL L * cntL L+5 * cntL L+1:=by
    have h1:=cnt_catT (lb::R);rw [hfst,cntL] at h1;have h2:=hbr.2;have h3:=Nat.mul_le_mul hct hct;omega
   obtain ⟨nb,hnb⟩:∃ nb,nullB t=nb:=⟨_,rfl⟩;rw [hnb] at hXd;have HI:=hid (And.intro hS (And.intro hX (And.intro hXa (And.intro hXb (And.intro hq (And.intro hbx hrs))))));have hmem:fst ∈ pC b L:=by rw [← hXd];simp
   have HTk:=hid (And.intro hXd (And.intro hbr (And.intro hB (And.intro hmem (And.intro hfr (And.intro hfc (And.intro hfst (And.intro hRm (And.intro hcR (And.intro hR (And.intro hnb hlb)))))))))));have HLR:=hid (lie_drop (HL.out.1.keepF KW.out) (k+1));rw [hR] at HLR;have HRl:=hid (show R.length=L.length - (k+1) by rw [← hR,List.length_drop])
   have HN1:=hid (And.intro N1 (And.intro L1 (And.intro le1 (And.intro hRt hokb.2))));have HS:=hid (fun (W':World) (q:Keep (fun _=>False) wr W')=>(show W'.cell? ⟨w.heap.size,0,none⟩=some (.int .u8 (b:Int))∧W'.cell? ⟨w.heap.size,1,none⟩=some (.int .i64 M) from ⟨(HI.out.2.2.2.2.2.1.keep q (fun h=>h)).cell (o:=0) rfl,(HI.out.2.2.2.2.2.1.keep q (fun h=>h)).cell (o:=1) rfl⟩))
   have Kc:=hid ((Keep.refl (fun _=>False) wr).drew)
   have HR1:=hid hRegt;have hcap:=HL.out.2;clear hS hX hXa hXd hXb hq hbx hrs N1 L1 C1 le1 hdr hbr hlb hB hRt hRegt hct htm ht hokb hbl hR hRm hcR hfst hfr hfc hnb hmem;go_upto_region 5 with fail
   go_cut [8,9] from 16 to 50 (fun x y wx=>∃ g lf ja jc,x=.pointer (some ⟨g,0,none⟩)∧y=.bool B∧(At wx g 27 (ncells lf ja jc)∧lf.subs.length≤jc∧Lie wx (fun k=>smE (fun k=>ok k∧k<w.heap.size) n0 n0 v k∧k≠g) ja lf.subs∧Keep (fun _=>False) wr wx∧wr.heap.size≤g)∧((cnt lb:Int)≤M→lf=lb))
   case first =>
    refine wp_region_noPanic ?_;refine wp_region_held_drew (S:=(fun W=>W.cell? ⟨w.heap.size,0,none⟩=some (.int .u8 b)∧W.cell? ⟨w.heap.size,1,none⟩=some (.int .i64 M))) (by kernel_rfl) ?_ (fun hHeld=>?_)
    ·exact HS.out _ ((Keep.refl _ _).drew)
    refine wpAnyH_take (i:=0) (oi:=⟨_,_,_,_,_,_⟩) (v:=?_) rfl (by kernel_rfl) (by kernel_rfl) (by kernel_rfl) (fun _ _ _ h=>h) (Or.inl ⟨by rfl,?_⟩) (by assumption) ?_
    rotate_left 1
    ·(intro w hSw;(try dsimp only at hSw);go_simp;first | done | with_reducible rfl)
    try simp only [Act.put,List.setIfInBounds_toArray,List.set_cons_zero,List.set_cons_succ]
    refine wpAnyH_take (i:=1) (oi:=⟨_,_,_,_,_,_⟩) (v:=?_) rfl (by kernel_rfl) (by kernel_rfl) (by kernel_rfl) (fun _ _ _ h=>h) (Or.inl ⟨by rfl,?_⟩) (by assumption) ?_
    rotate_left 1
    ·(intro w hSw;(try dsimp only at hSw);go_simp;first | done | with_reducible rfl)
    try simp only [Act.put,List.setIfInBounds_toArray,List.set_cons_zero,List.set_cons_succ]
    refine wpAnyH_take (i:=2) (oi:=⟨_,_,_,_,_,_⟩) (v:=?_) rfl (by kernel_rfl) (by kernel_rfl) (by kernel_rfl) (fun _ _ _ h=>h) (Or.inl ⟨by rfl,?_⟩) (by assumption) ?_
    rotate_left 1
    ·(intro w hSw;(try dsimp only at hSw);go_simp;first | done | with_reducible rfl)
    try simp only [Act.put,List.setIfInBounds_toArray,List.set_cons_zero,List.set_cons_succ]
    refine wpAnyH_take (i:=3) (oi:=⟨_,_,_,_,_,_⟩) (v:=?_) rfl (by kernel_rfl) (by kernel_rfl) (by kernel_rfl) (fun _ _ _ h=>h) (Or.inl ⟨by rfl,?_⟩) (by assumption) ?_
    rotate_left 1
    ·(intro w hSw;(try dsimp only at hSw);go_simp;first | done | with_reducible rfl)
    try simp only [Act.put,List.setIfInBounds_toArray,List.set_cons_zero,List.set_cons_succ]
    refine wpAnyH_ready (rs:=[4,8]) (by kernel_rfl) (by simp) ?_
    refine (AllReadyH.cons (o:=⟨_,_,_,_,_,_⟩) rfl (fun K hK=>?_) (AllReadyH.cons (o:=⟨_,_,_,_,_,_⟩) rfl (fun K hK=>?_) AllReadyH.nil))
    go_simp
    (go_at_call 19;refine (HOf.out _ Kc.out).mono ?_;rintro e w5 ⟨lf,⟨⟨vv,rfl,ja,jc,rfl,hle,hlie⟩,q5⟩,hlf⟩)
    have Nc:=hid (And.intro hle (hlie.mono (ok':=fun k=>smE (fun k=>ok k∧k<w.heap.size) n0 n0 v k) (fun k hk=>by have z1:=Kc.out.size;have z2:=HZ.out;rcases hk with hk | hk;exact ⟨.inl hk,by have:=hk.2;omega,fun e=>by have:=HOwn.out.1 k e;have:=hk.2;omega⟩;exact ⟨.inr (by omega),by omega,fun e=>by have:=HOwn.out.2 k e;omega⟩)))
    have HLf:=hid hlf;have Kc:=hid (Kc.out.trans q5);clear hle hlie q5 hlf;refine hK.out _ _ ?_ (fun hHeld'=>?_)
    ·exact HS.out _ Kc.out
    clear hK K hHeld;have hHeld:=hHeld';clear hHeld'
    try simp only [Act.put,List.setIfInBounds_toArray,List.set_cons_zero,List.set_cons_succ]
    refine wpAnyH_take (i:=5) (oi:=⟨_,_,_,_,_,_⟩) (v:=?_) rfl (by kernel_rfl) (by kernel_rfl) (by kernel_rfl) (fun _ _ _ h=>h) (Or.inl ⟨by rfl,?_⟩) (by assumption) ?_
    rotate_left 1
    ·(intro w hSw;(try dsimp only at hSw);go_simp;first | done | with_reducible rfl)
    try simp only [Act.put,List.setIfInBounds_toArray,List.set_cons_zero,List.set_cons_succ]
    refine wpAnyH_take (i:=6) (oi:=⟨_,_,_,_,_,_⟩) (v:=?_) rfl (by kernel_rfl) (by kernel_rfl) (by kernel_rfl) (fun _ _ _ h=>h) (Or.inl ⟨by rfl,?_⟩) (by assumption) ?_
    rotate_left 1
    ·(intro w hSw;(try dsimp only at hSw);go_simp;first | done | with_reducible rfl)
    try simp only [Act.put,List.setIfInBounds_toArray,List.set_cons_zero,List.set_cons_succ]
    refine wpAnyH_take (i:=7) (oi:=⟨_,_,_,_,_,_⟩) (v:=?_) rfl (by kernel_rfl) (by kernel_rfl) (by kernel_rfl) (fun _ _ _ h=>h) (Or.inl ⟨by rfl,?_⟩) (by assumption) ?_
    rotate_left 1
    ·(intro w hSw;(try dsimp only at hSw);go_simp;first | done | with_reducible rfl)
    try simp only [Act.put,List.setIfInBounds_toArray,List.set_cons_zero,List.set_cons_succ]
    refine wpAnyH_ready (rs:=[8]) (by kernel_rfl) (by simp) ?_
    refine (AllReadyH.cons (o:=⟨_,_,_,_,_,_⟩) rfl (fun K hK=>?_) AllReadyH.nil)
    obtain ⟨g,hg⟩:∃ g,(w5).heap.size=g:=⟨_,rfl⟩;have hA:=At.new (w5) nzeros 27;rw [hg] at hA;have hAg:wr.heap.size≤g:=by rw [← hg];exact Kc.out.size
    have Nc:=hid (And.intro Nc.out.1 ((Nc.out.2.under.keepF ((Keep.refl (fun _=>False) (w5)).alloc (.cells nzeros 27))).mono (ok':=fun k=>smE (fun k=>ok k∧k<w.heap.size) n0 n0 v k∧k≠g) (fun k h=>⟨h.1,by have:=h.2;omega⟩)))
    have Kc:=hid (Kc.out.trans ((Keep.refl (fun _=>False) (w5)).alloc (.cells nzeros 27)))
    have Ac:=hid (And.intro hA hAg);clear hA hAg;go_simp;refine hK.out _ (w5.alloc (.cells nzeros 27)) ?_ (fun hHeld'=>?_)
    ·exact HS.out _ Kc.out
    clear hK K hHeld;have hHeld:=hHeld';clear hHeld';generalize (w5.alloc (.cells nzeros 27))=wA at *
    try simp only [Act.put,List.setIfInBounds_toArray,List.set_cons_zero,List.set_cons_succ]
    refine wpAnyH_ready (rs:=[9]) (by kernel_rfl) (by simp) ?_
    refine (AllReadyH.cons (o:=⟨_,_,_,_,_,_⟩) rfl (fun K hK=>?_) AllReadyH.nil)
    obtain ⟨⟨d0,d1,d2,d3,d4,d5,d6,d7⟩,f0,f1,f2,f3,f4,f5,f6,f7⟩:=cells8 Ac.out.1;have hlt:=Ac.out.1.lt;have HF:=hid (fin_nodeC (X:=lf) (E':=fun k=>smE (fun k=>ok k∧k<w.heap.size) n0 n0 v k∧k≠g) Kc.out Ac.out.1 Ac.out.2 Nc.out.1 Nc.out.2 (fun k h=>⟨⟨h.1,h.2⟩,h.2⟩))
    go_simp;refine hK.out _ (putNd wA g 0 lf ja jc) ?_ (fun hHeld'=>?_)
    ·exact HS.out _ HF.out.2.2.2.1
    clear hK K hHeld;have hHeld:=hHeld';clear hHeld';generalize (putNd wA g 0 lf ja jc)=wP at *
    try simp only [Act.put,List.setIfInBounds_toArray,List.set_cons_zero,List.set_cons_succ]
    refine wpAnyH_take (i:=10) (oi:=⟨_,_,_,_,_,_⟩) (v:=?_) rfl (by kernel_rfl) (by kernel_rfl) (by kernel_rfl) (fun _ _ _ h=>h) (Or.inl ⟨by rfl,?_⟩) (by assumption) ?_
    rotate_left 1
    ·(intro w hSw;(try dsimp only at hSw);go_simp;first | done | with_reducible rfl)
    try simp only [Act.put,List.setIfInBounds_toArray,List.set_cons_zero,List.set_cons_succ]
    refine wpAnyH_done (by kernel_rfl) ?_ _
    refine NoPanic.normal ?_;rotate_left 1;obtain ⟨g,hg⟩:∃ g,(wr.drew).heap.size=g:=⟨_,rfl⟩;have hA:=At.new (wr.drew) nzeros 27;rw [hg] at hA;have hAg:wr.heap.size≤g:=by rw [← hg];exact Kc.out.size
    have Kc:=hid (Kc.out.trans ((Keep.refl (fun _=>False) (wr.drew)).alloc (.cells nzeros 27)))
    have Ac:=hid (And.intro hA hAg);clear hA hAg;go_simp;refine hK.out _ (wr.drew.alloc (.cells nzeros 27)) ?_ (fun hHeld'=>?_)
    ·exact HS.out _ Kc.out
    clear hK K hHeld;have hHeld:=hHeld';clear hHeld';generalize (wr.drew.alloc (.cells nzeros 27))=wA at *
    try simp only [Act.put,List.setIfInBounds_toArray,List.set_cons_zero,List.set_cons_succ]
    refine wpAnyH_ready (rs:=[4]) (by kernel_rfl) (by simp) ?_
    refine (AllReadyH.cons (o:=⟨_,_,_,_,_,_⟩) rfl (fun K hK=>?_) AllReadyH.nil)
    go_simp
    (go_at_call 19;refine (HOf.out _ Kc.out).mono ?_;rintro e w5 ⟨lf,⟨⟨vv,rfl,ja,jc,rfl,hle,hlie⟩,q5⟩,hlf⟩)
    have Nc:=hid (And.intro hle (hlie.mono (ok':=fun k=>smE (fun k=>ok k∧k<w.heap.size) n0 n0 v k∧k≠g) (fun k hk=>by have z1:=Kc.out.size;have z2:=HZ.out;have z3:=Ac.out.1.lt;have z4:=Ac.out.2;rcases hk with hk | hk;exact ⟨⟨.inl hk,by have:=hk.2;omega,fun e=>by have:=HOwn.out.1 k e;have:=hk.2;omega⟩,by have:=hk.2;omega⟩;exact ⟨⟨.inr (by omega),by omega,fun e=>by have:=HOwn.out.2 k e;omega⟩,by omega⟩)))
    have HLf:=hid hlf;have Ac:=hid (And.intro (Ac.out.1.keep q5 (fun h=>h)) Ac.out.2)
    have Kc:=hid (Kc.out.trans q5);clear hle hlie q5 hlf;refine hK.out _ _ ?_ (fun hHeld'=>?_)
    ·exact HS.out _ Kc.out
    clear hK K hHeld;have hHeld:=hHeld';clear hHeld'
    try simp only [Act.put,List.setIfInBounds_toArray,List.set_cons_zero,List.set_cons_succ]
    refine wpAnyH_take (i:=5) (oi:=⟨_,_,_,_,_,_⟩) (v:=?_) rfl (by kernel_rfl) (by kernel_rfl) (by kernel_rfl) (fun _ _ _ h=>h) (Or.inl ⟨by rfl,?_⟩) (by assumption) ?_
    rotate_left 1
    ·(intro w hSw;(try dsimp only at hSw);go_simp;first | done | with_reducible rfl)
    try simp only [Act.put,List.setIfInBounds_toArray,List.set_cons_zero,List.set_cons_succ]
    refine wpAnyH_take (i:=6) (oi:=⟨_,_,_,_,_,_⟩) (v:=?_) rfl (by kernel_rfl) (by kernel_rfl) (by kernel_rfl) (fun _ _ _ h=>h) (Or.inl ⟨by rfl,?_⟩) (by assumption) ?_
    rotate_left 1
    ·(intro w hSw;(try dsimp only at hSw);go_simp;first | done | with_reducible rfl)
    try simp only [Act.put,List.setIfInBounds_toArray,List.set_cons_zero,List.set_cons_succ]
    refine wpAnyH_take (i:=7) (oi:=⟨_,_,_,_,_,_⟩) (v:=?_) rfl (by kernel_rfl) (by kernel_rfl) (by kernel_rfl) (fun _ _ _ h=>h) (Or.inl ⟨by rfl,?_⟩) (by assumption) ?_
    rotate_left 1
    ·(intro w hSw;(try dsimp only at hSw);go_simp;first | done | with_reducible rfl)
    try simp only [Act.put,List.setIfInBounds_toArray,List.set_cons_zero,List.set_cons_succ]
    refine wpAnyH_ready (rs:=[9]) (by kernel_rfl) (by simp) ?_
    refine (AllReadyH.cons (o:=⟨_,_,_,_,_,_⟩) rfl (fun K hK=>?_) AllReadyH.nil)
    obtain ⟨⟨d0,d1,d2,d3,d4,d5,d6,d7⟩,f0,f1,f2,f3,f4,f5,f6,f7⟩:=cells8 Ac.out.1;have hlt:=Ac.out.1.lt;have HF:=hid (fin_nodeC (X:=lf) (E':=fun k=>smE (fun k=>ok k∧k<w.heap.size) n0 n0 v k∧k≠g) Kc.out Ac.out.1 Ac.out.2 Nc.out.1 Nc.out.2 (fun k h=>⟨⟨h.1,h.2⟩,h.2⟩))
    go_simp;refine hK.out _ (putNd w5 g 0 lf ja jc) ?_ (fun hHeld'=>?_)
    ·exact HS.out _ HF.out.2.2.2.1
    clear hK K hHeld;have hHeld:=hHeld';clear hHeld';generalize (putNd w5 g 0 lf ja jc)=wP at *
    try simp only [Act.put,List.setIfInBounds_toArray,List.set_cons_zero,List.set_cons_succ]
    refine wpAnyH_take (i:=10) (oi:=⟨_,_,_,_,_,_⟩) (v:=?_) rfl (by kernel_rfl) (by kernel_rfl) (by kernel_rfl) (fun _ _ _ h=>h) (Or.inl ⟨by rfl,?_⟩) (by assumption) ?_
    rotate_left 1
    ·(intro w hSw;(try dsimp only at hSw);go_simp;first | done | with_reducible rfl)
    try simp only [Act.put,List.setIfInBounds_toArray,List.set_cons_zero,List.set_cons_succ]
    refine wpAnyH_done (by kernel_rfl) ?_ _
    refine NoPanic.normal ?_;rotate_left 1
    all_goals
     go_wp2_with fail
     go_meet
     case rel=>exact ⟨g,lf,ja,jc,rfl,rfl,HF.out,HLf.out⟩
   case rest =>
    obtain ⟨g,lf,ja,jc,rfl,rfl,⟨hA,hle,hlie,hK,hg⟩,hlf⟩:=hcut;obtain ⟨wx,hw⟩:∃ z,z=wc:=⟨_,rfl⟩;subst hw;have HC:=hid (And.intro hA (And.intro hle (And.intro hlie (And.intro hK (And.intro hg hlf)))));obtain ⟨⟨y0,y1,y2,y3,y4,y5,y6,y7⟩,-⟩:=cells8 hA;have hbxx:=HI.out.2.2.2.2.2.1.keep hK (fun h=>h)
    have b0':=hbxx.cell (o:=0) rfl;have b1':=hbxx.cell (o:=1) rfl;clear hA hle hlie hK hg hlf hb0 hb1 hbxx
    go_upto_if 26 with fail
    go_cut [9] from 16 to 50 (fun y wy=>∃ B2 fr fa fc,y=.bool B2∧(At wy g 27 (ncells fr fa fc)∧fr.subs.length≤fc∧Lie wy (fun k=>smE (fun k=>ok k∧k<w.heap.size) n0 n0 v k∧k≠g) fa fr.subs∧Keep (fun k=>k=g) wx wy)∧decide ((cnt fst:Int)≤M)=B2∧(B2=true→fr=fst))
    case first =>
     cases B
     ·have hno:¬ (cnt fst:Int)≤M:=fun h=>by
       have h1:=of_decide_eq_false HTk.out.2.2.1;have hnn:isNo lb=false:=by
        cases e:isNo lb with
        | false=>rfl
        | true =>
         obtain ⟨d,hd,-⟩:=HTk.out.2.1.1;rw [no_is hd e,show cnt noT=1 from cnt_clsT _] at h1
         exact absurd HR1.out.pos.1 h1
       have h2:=cat_ge HTk.out.2.1.1 hnn (l:=R) fun u hu=>⟨H0.out.2.1 u (HTk.out.2.2.2.2.2.2.2.1 u hu),(HSi.out u (HTk.out.2.2.2.2.2.2.2.1 u hu)).2.2⟩
       rw [HTk.out.2.2.2.2.2.2.1] at h2;omega
      have HNo:=hid (decide_eq_false hno);clear hno;go_wp2_with fail
      go_meet
      case rel=>exact ⟨false,lf,ja,jc,rfl,⟨HC.out.1,HC.out.2.1,HC.out.2.2.1,Keep.refl _ _⟩,HNo.out,fun h=>(by cases h)⟩
     ·have hlm:=of_decide_eq_true HTk.out.2.2.1
      obtain rfl:lf=lb:=HC.out.2.2.2.2.2 hlm;obtain ⟨B2,hB2⟩:∃ B2,decide ((cnt fst:Int)≤M)=B2:=⟨_,rfl⟩;have HB2:=hid hB2
      have HFo:=hid (fun (la:Option Addr) (lc:Nat) W (q:Keep (fun _=>False) wx W) (hla:Lie W (fun k=>smE (fun k=>ok k∧k<w.heap.size) n0 n0 v k∧k≠g) la R)=>by
       obtain ⟨d,hRd,-⟩:=HTk.out.2.1.1;have hc4:=HR1.out.cap hlm (by have h1:=HTk.out.2.1.2;omega)
       have:=followed_any b M H0.out.2.2.pos.1 lf hRd R (by rw [cntL];have:=HTk.out.2.2.2.2.2.2.2.2.1;have:=H0.out.2.2.1;omega) (by
        intro u hu
        rcases mem_unf hu with ⟨hm,-⟩ | ⟨z,hz,hk3,hm⟩
        ·rcases List.mem_cons.1 hm with rfl | hm
         ·exact ok_of hRd
         ·obtain ⟨d2,h2,-⟩:=H0.out.2.1 u (HTk.out.2.2.2.2.2.2.2.1 u hm)
          exact ok_of h2
        ·rcases List.mem_cons.1 hz with rfl | hz
         ·exact ok_of (sub_right hRd.subs u hm)
         ·obtain ⟨d2,h2,-⟩:=H0.out.2.1 z (HTk.out.2.2.2.2.2.2.2.1 z hz)
          exact ok_of (sub_right h2.subs u hm)) (B:=B2) (by rw [HTk.out.2.2.2.2.2.2.1];exact HB2.out) ja jc HC.out.2.1 la lc (fun k=>smE (fun k=>ok k∧k<w.heap.size) n0 n0 v k∧k≠g) W (HC.out.2.2.1.keepF q) hla
       rw [HTk.out.2.2.2.2.2.2.1] at this
       exact this)
      obtain ⟨K1,hK1⟩:∃ K1:Nat,k+1=K1:=⟨_,rfl⟩;have hwk:IntKind.i64.wrap ((k:Int)+1)=(K1:Int):=by rw [IntKind.wrap_i64];omega
      have i1:(0:Int)≤(K1:Int):=by omega
      have i2:(K1:Int)≤L.length:=by omega
      obtain ⟨LA,hLA⟩:∃ LA,(if cap=K1 then some (⟨bl,off,none⟩:Addr) else some ⟨bl,off+K1 * 8,none⟩)=LA:=⟨_,rfl⟩
      have HLA:=hid (show Lie wx (fun k=>smE (fun k=>ok k∧k<w.heap.size) n0 n0 v k∧k≠g) LA R from by
       rw [← hLA]
       by_cases hck:cap=K1
       ·rw [if_pos hck]
        have:R=[]:=List.eq_nil_of_length_eq_zero (by rw [HRl.out];omega)
        rw [this];exact .nil _
       ·rw [if_neg hck]
        have h1:=HLR.out;rw [hK1] at h1;refine (h1.keepF HC.out.2.2.2.1).mono fun k hk=>?_
        have h2:=HZ.out;have h3:=HC.out.2.2.2.2.1
        exact ⟨⟨.inl hk,by have:=hk.2;omega,fun e=>by have:=HOwn.out.1 k e;have:=hk.2;omega⟩,by have:=hk.2;omega⟩)
      have HF7:=hid (fun W (q:Keep (fun _=>False) wx W)=>HFo.out LA (cap - K1) W q (HLA.out.keepF q))
      rw [show R.length=L.length - K1 from by rw [HRl.out,hK1]] at HF7
      clear hK1 hlm hB2;go_upto_region 7 with fail;refine wp_region_noPanic ?_;refine wp_region_held_drew (S:=(fun _=>True)) (by kernel_rfl) ?_ (fun hHeld=>?_)
      ·trivial
      refine wpAnyH_take (i:=2) (oi:=⟨_,_,_,_,_,_⟩) (v:=?_) rfl (by kernel_rfl) (by kernel_rfl) (by kernel_rfl) (fun _ _ _ h=>h) (Or.inl ⟨by rfl,?_⟩) (by assumption) ?_
      rotate_left 1
      ·(intro w hSw;(try dsimp only at hSw);go_simp;first | done | with_reducible rfl)
      try simp only [Act.put,List.setIfInBounds_toArray,List.set_cons_zero,List.set_cons_succ]
      refine wpAnyH_take (i:=3) (oi:=⟨_,_,_,_,_,_⟩) (v:=?_) rfl (by kernel_rfl) (by kernel_rfl) (by kernel_rfl) (fun _ _ _ h=>h) (Or.inl ⟨by rfl,?_⟩) (by assumption) ?_
      rotate_left 1
      ·(intro w hSw;(try dsimp only at hSw);go_simp;first | done | with_reducible rfl)
      try simp only [Act.put,List.setIfInBounds_toArray,List.set_cons_zero,List.set_cons_succ]
      refine wpAnyH_take (i:=4) (oi:=⟨_,_,_,_,_,_⟩) (v:=?_) rfl (by kernel_rfl) (by kernel_rfl) (by kernel_rfl) (fun _ _ _ h=>h) (Or.inl ⟨by rfl,?_⟩) (by assumption) ?_
      rotate_left 1
      ·(intro w hSw;(try dsimp only at hSw);go_simp;first | done | with_reducible rfl)
      try simp only [Act.put,List.setIfInBounds_toArray,List.set_cons_zero,List.set_cons_succ]
      refine wpAnyH_take (i:=5) (oi:=⟨_,_,_,_,_,_⟩) (v:=?_) rfl (by kernel_rfl) (by kernel_rfl) (by kernel_rfl) (fun _ _ _ h=>h) (Or.inl ⟨by rfl,?_⟩) (by assumption) ?_
      rotate_left 1
      ·(intro w hSw;(try dsimp only at hSw);go_simp;first | done | with_reducible rfl)
      try simp only [Act.put,List.setIfInBounds_toArray,List.set_cons_zero,List.set_cons_succ]
      refine wpAnyH_ready (rs:=[0,1]) (by kernel_rfl) (by simp) ?_
      refine (AllReadyH.cons (o:=⟨_,_,_,_,_,_⟩) rfl (fun K hK=>?_) (AllReadyH.cons (o:=⟨_,_,_,_,_,_⟩) rfl (fun K hK=>?_) AllReadyH.nil))
      go_simp;refine hK.out _ _ ?_ (fun hHeld'=>?_)
      ·trivial
      clear hK K hHeld;have hHeld:=hHeld';clear hHeld'
      try simp only [Act.put,List.setIfInBounds_toArray,List.set_cons_zero,List.set_cons_succ]
      refine wpAnyH_ready (rs:=[1]) (by kernel_rfl) (by simp) ?_
      refine (AllReadyH.cons (o:=⟨_,_,_,_,_,_⟩) rfl (fun K hK=>?_) AllReadyH.nil)
      go_simp;refine hK.out _ _ ?_ (fun hHeld'=>?_)
      ·trivial
      clear hK K hHeld;have hHeld:=hHeld';clear hHeld'
      try simp only [Act.put,List.setIfInBounds_toArray,List.set_cons_zero,List.set_cons_succ]
      refine wpAnyH_ready (rs:=[6]) (by kernel_rfl) (by simp) ?_
      refine (AllReadyH.cons (o:=⟨_,_,_,_,_,_⟩) rfl (fun K hK=>?_) AllReadyH.nil)
      go_simp
      (go_at_call 46;refine (HF7.out _ ((Keep.refl (fun _=>False) wx).drew)).mono ?_;rintro e w5 ⟨⟨vv,rfl,fa,fc,rfl,hle,hlie⟩,q5⟩)
      have K5:=hid (((Keep.refl (fun _=>False) wx).drew).trans q5)
      have N5:=hid (And.intro hle (hlie.mono (ok':=fun k=>smE (fun k=>ok k∧k<w.heap.size) n0 n0 v k∧k≠g) (fun k hk=>by have z1:=((Keep.refl (fun _=>False) wx).drew).size;have z2:=HZ.out;have z3:=HC.out.2.2.2.1.size;have z4:=HC.out.1.lt;rcases hk with hk | hk;exact hk;exact ⟨⟨.inr (by omega),by omega,fun e=>by have:=HOwn.out.2 k e;omega⟩,by omega⟩)))
      clear hle hlie q5;refine hK.out _ _ ?_ (fun hHeld'=>?_)
      ·trivial
      clear hK K hHeld;have hHeld:=hHeld';clear hHeld'
      try simp only [Act.put,List.setIfInBounds_toArray,List.set_cons_zero,List.set_cons_succ]
      refine wpAnyH_take (i:=7) (oi:=⟨_,_,_,_,_,_⟩) (v:=?_) rfl (by kernel_rfl) (by kernel_rfl) (by kernel_rfl) (fun _ _ _ h=>h) (Or.inl ⟨by rfl,?_⟩) (by assumption) ?_
      rotate_left 1
      ·(intro w hSw;(try dsimp only at hSw);go_simp;first | done | with_reducible rfl)
      try simp only [Act.put,List.setIfInBounds_toArray,List.set_cons_zero,List.set_cons_succ]
      refine wpAnyH_take (i:=8) (oi:=⟨_,_,_,_,_,_⟩) (v:=?_) rfl (by kernel_rfl) (by kernel_rfl) (by kernel_rfl) (fun _ _ _ h=>h) (Or.inl ⟨by rfl,?_⟩) (by assumption) ?_
      rotate_left 1
      ·(intro w hSw;(try dsimp only at hSw);go_simp;first | done | with_reducible rfl)
      try simp only [Act.put,List.setIfInBounds_toArray,List.set_cons_zero,List.set_cons_succ]
      refine wpAnyH_take (i:=9) (oi:=⟨_,_,_,_,_,_⟩) (v:=?_) rfl (by kernel_rfl) (by kernel_rfl) (by kernel_rfl) (fun _ _ _ h=>h) (Or.inl ⟨by rfl,?_⟩) (by assumption) ?_
      rotate_left 1
      ·(intro w hSw;(try dsimp only at hSw);go_simp;first | done | with_reducible rfl)
      try simp only [Act.put,List.setIfInBounds_toArray,List.set_cons_zero,List.set_cons_succ]
      refine wpAnyH_ready (rs:=[10]) (by kernel_rfl) (by simp) ?_
      refine (AllReadyH.cons (o:=⟨_,_,_,_,_,_⟩) rfl (fun K hK=>?_) AllReadyH.nil)
      have A5:=hid (HC.out.1.keep K5.out (fun h=>h))
      have H9:=hid (show At (putNd w5 g 0 fst fa fc) g 27 (ncells fst fa fc)∧fst.subs.length≤fc∧Lie (putNd w5 g 0 fst fa fc) (fun k=>smE (fun k=>ok k∧k<w.heap.size) n0 n0 v k∧k≠g) fa fst.subs∧Keep (fun k=>k=g) wx (putNd w5 g 0 fst fa fc) from ⟨set8 A5.out (.int .i64 fst.kind) (.int .u64 fst.set.x0) (.int .u64 fst.set.x1) (.int .u64 fst.set.x2) (.int .u64 fst.set.x3) (.int .i64 fst.mn) (.int .i64 fst.mx) (.slice fa fst.subs.length fc),N5.out.1,N5.out.2.keep (putNd_keep w5 g 0 fst fa fc) (fun b hb e=>hb.2 e),(K5.out.mono (fun _ h=>h.elim)).trans (putNd_keep w5 g 0 fst fa fc)⟩)
      obtain ⟨⟨d0,d1,d2,d3,d4,d5,d6,d7⟩,f0,f1,f2,f3,f4,f5,f6,f7⟩:=cells8 A5.out;have hlt5:=A5.out.lt;go_simp;refine hK.out _ (putNd w5 g 0 fst fa fc) ?_ (fun hHeld'=>?_)
      ·trivial
      clear hK K hHeld;have hHeld:=hHeld';clear hHeld';generalize (putNd w5 g 0 fst fa fc)=W9 at *
      try simp only [Act.put,List.setIfInBounds_toArray,List.set_cons_zero,List.set_cons_succ]
      refine wpAnyH_take (i:=11) (oi:=⟨_,_,_,_,_,_⟩) (v:=?_) rfl (by kernel_rfl) (by kernel_rfl) (by kernel_rfl) (fun _ _ _ h=>h) (Or.inl ⟨by rfl,?_⟩) (by assumption) ?_
      rotate_left 1
      ·(intro w hSw;(try dsimp only at hSw);go_simp;first | done | with_reducible rfl)
      try simp only [Act.put,List.setIfInBounds_toArray,List.set_cons_zero,List.set_cons_succ]
      refine wpAnyH_done (by kernel_rfl) ?_ _
      refine NoPanic.normal ?_;rotate_left 1;go_simp;refine hK.out _ _ ?_ (fun hHeld'=>?_)
      ·trivial
      clear hK K hHeld;have hHeld:=hHeld';clear hHeld'
      try simp only [Act.put,List.setIfInBounds_toArray,List.set_cons_zero,List.set_cons_succ]
      refine wpAnyH_ready (rs:=[0]) (by kernel_rfl) (by simp) ?_
      refine (AllReadyH.cons (o:=⟨_,_,_,_,_,_⟩) rfl (fun K hK=>?_) AllReadyH.nil)
      go_simp;refine hK.out _ _ ?_ (fun hHeld'=>?_)
      ·trivial
      clear hK K hHeld;have hHeld:=hHeld';clear hHeld'
      try simp only [Act.put,List.setIfInBounds_toArray,List.set_cons_zero,List.set_cons_succ]
      refine wpAnyH_ready (rs:=[6]) (by kernel_rfl) (by simp) ?_
      refine (AllReadyH.cons (o:=⟨_,_,_,_,_,_⟩) rfl (fun K hK=>?_) AllReadyH.nil)
      go_simp
      (go_at_call 46;refine (HF7.out _ ((Keep.refl (fun _=>False) wx).drew)).mono ?_;rintro e w5 ⟨⟨vv,rfl,fa,fc,rfl,hle,hlie⟩,q5⟩)
      have K5:=hid (((Keep.refl (fun _=>False) wx).drew).trans q5)
      have N5:=hid (And.intro hle (hlie.mono (ok':=fun k=>smE (fun k=>ok k∧k<w.heap.size) n0 n0 v k∧k≠g) (fun k hk=>by have z1:=((Keep.refl (fun _=>False) wx).drew).size;have z2:=HZ.out;have z3:=HC.out.2.2.2.1.size;have z4:=HC.out.1.lt;rcases hk with hk | hk;exact hk;exact ⟨⟨.inr (by omega),by omega,fun e=>by have:=HOwn.out.2 k e;omega⟩,by omega⟩)))
      clear hle hlie q5;refine hK.out _ _ ?_ (fun hHeld'=>?_)
      ·trivial
      clear hK K hHeld;have hHeld:=hHeld';clear hHeld'
      try simp only [Act.put,List.setIfInBounds_toArray,List.set_cons_zero,List.set_cons_succ]
      refine wpAnyH_take (i:=7) (oi:=⟨_,_,_,_,_,_⟩) (v:=?_) rfl (by kernel_rfl) (by kernel_rfl) (by kernel_rfl) (fun _ _ _ h=>h) (Or.inl ⟨by rfl,?_⟩) (by assumption) ?_
      rotate_left 1
      ·(intro w hSw;(try dsimp only at hSw);go_simp;first | done | with_reducible rfl)
      try simp only [Act.put,List.setIfInBounds_toArray,List.set_cons_zero,List.set_cons_succ]
      refine wpAnyH_take (i:=8) (oi:=⟨_,_,_,_,_,_⟩) (v:=?_) rfl (by kernel_rfl) (by kernel_rfl) (by kernel_rfl) (fun _ _ _ h=>h) (Or.inl ⟨by rfl,?_⟩) (by assumption) ?_
      rotate_left 1
      ·(intro w hSw;(try dsimp only at hSw);go_simp;first | done | with_reducible rfl)
      try simp only [Act.put,List.setIfInBounds_toArray,List.set_cons_zero,List.set_cons_succ]
      refine wpAnyH_take (i:=9) (oi:=⟨_,_,_,_,_,_⟩) (v:=?_) rfl (by kernel_rfl) (by kernel_rfl) (by kernel_rfl) (fun _ _ _ h=>h) (Or.inl ⟨by rfl,?_⟩) (by assumption) ?_
      rotate_left 1
      ·(intro w hSw;(try dsimp only at hSw);go_simp;first | done | with_reducible rfl)
      try simp only [Act.put,List.setIfInBounds_toArray,List.set_cons_zero,List.set_cons_succ]
      refine wpAnyH_ready (rs:=[10]) (by kernel_rfl) (by simp) ?_
      refine (AllReadyH.cons (o:=⟨_,_,_,_,_,_⟩) rfl (fun K hK=>?_) AllReadyH.nil)
      have A5:=hid (HC.out.1.keep K5.out (fun h=>h))
      have H9:=hid (show At (putNd w5 g 0 fst fa fc) g 27 (ncells fst fa fc)∧fst.subs.length≤fc∧Lie (putNd w5 g 0 fst fa fc) (fun k=>smE (fun k=>ok k∧k<w.heap.size) n0 n0 v k∧k≠g) fa fst.subs∧Keep (fun k=>k=g) wx (putNd w5 g 0 fst fa fc) from ⟨set8 A5.out (.int .i64 fst.kind) (.int .u64 fst.set.x0) (.int .u64 fst.set.x1) (.int .u64 fst.set.x2) (.int .u64 fst.set.x3) (.int .i64 fst.mn) (.int .i64 fst.mx) (.slice fa fst.subs.length fc),N5.out.1,N5.out.2.keep (putNd_keep w5 g 0 fst fa fc) (fun b hb e=>hb.2 e),(K5.out.mono (fun _ h=>h.elim)).trans (putNd_keep w5 g 0 fst fa fc)⟩)
      obtain ⟨⟨d0,d1,d2,d3,d4,d5,d6,d7⟩,f0,f1,f2,f3,f4,f5,f6,f7⟩:=cells8 A5.out;have hlt5:=A5.out.lt;go_simp;refine hK.out _ (putNd w5 g 0 fst fa fc) ?_ (fun hHeld'=>?_)
      ·trivial
      clear hK K hHeld;have hHeld:=hHeld';clear hHeld';generalize (putNd w5 g 0 fst fa fc)=W9 at *
      try simp only [Act.put,List.setIfInBounds_toArray,List.set_cons_zero,List.set_cons_succ]
      refine wpAnyH_take (i:=11) (oi:=⟨_,_,_,_,_,_⟩) (v:=?_) rfl (by kernel_rfl) (by kernel_rfl) (by kernel_rfl) (fun _ _ _ h=>h) (Or.inl ⟨by rfl,?_⟩) (by assumption) ?_
      rotate_left 1
      ·(intro w hSw;(try dsimp only at hSw);go_simp;first | done | with_reducible rfl)
      try simp only [Act.put,List.setIfInBounds_toArray,List.set_cons_zero,List.set_cons_succ]
      refine wpAnyH_done (by kernel_rfl) ?_ _
      refine NoPanic.normal ?_;rotate_left 1
      all_goals
       go_wp2_with fail
       go_meet
       case rel=>exact ⟨B2,fst,fa,fc,rfl,H9.out,HB2.out,fun _=>rfl⟩
    case rest =>
     obtain ⟨B2,fr,fa,fc,rfl,⟨hA,hle,hlie,hK⟩,hB2,hfr⟩:=hcut;have hKc:Keep (fun _=>False) wr wc:=HC.out.2.2.2.1.next hK (fun i (e:i=g) hi=>by have:=HC.out.2.2.2.2.1;omega)
     have R6:=hid (show Rb w (w.heap.size+1) wc from ⟨HI.out.2.2.2.2.2.2.keep hKc (fun h=>h),KW.out.trans hKc,by omega⟩)
     have HKc:=hid (And.intro hKc (And.intro hA (And.intro hle hlie)));clear y0 y1 y2 y3 y4 y5 y6 y7 b0' b1';obtain ⟨⟨y0,y1,y2,y3,y4,y5,y6,y7⟩,-⟩:=cells8 hA;clear hA hle hlie hK hKc
     cases B2
     ·have HNo:=hid (show ¬ (cnt tt:Int)≤M from fun h=>by
       have h1:=of_decide_eq_false hB2;have h3:=alt_ge (pC_rs b L H0.out.2.1) HTk.out.2.2.2.1;rw [HT.out] at h3
       omega)
      clear hfr hB2;obtain ⟨⟨d0,d1,d2,d3,d4,d5,d6,d7⟩,f0,f1,f2,f3,f4,f5,f6,f7⟩:=cells8 R6.out.out;have hlt6:=R6.out.out.lt;go_wp2_with fail
      change bodyPost _ _ _ _ _ (putNd wc (w.heap.size+1) 0 zT none 0)
      have hP:=ofd_no (ok:=ok) (y:=tt) (M:=M) R6.out (by have:=HNo.out;omega)
      generalize (putNd wc (w.heap.size+1) 0 zT none 0)=W8 at hP ⊢;obtain ⟨⟨e0,e1,e2,e3,e4,e5,e6,e7⟩,-⟩:=cells8 hP.1;exact bodyPost_ret (v:=.tuple #[nodeV zT none 0,.bool false]) (by simp [results,Try.results34,go_sem,e0,e1,e2,e3,e4,e5,e6,e7]) rfl hP.2
     ·have hlm:=of_decide_eq_true hB2
      obtain rfl:fr=fst:=hfr rfl;have hl4:=H0.out.2.2.cap hlm HTk.out.2.2.2.2.2.1;have HAdd:=hid (add_any wc (HI.out.1.keepF HKc.out.1) HI.out.2.1 (H0.out.2.2.small (k:=k) (by have:=lenL L;omega) HI.out.2.2.2.1) HI.out.2.2.2.1.1 H0.out.2.2.pos (Nat.le_refl n0) fr HTk.out.2.2.2.2.1 hl4 fa fc HKc.out.2.2.1 (HKc.out.2.2.2.mono fun k hk=>hk.1))
      have HL4:=hid hl4;clear hlm hl4 hfr hB2;go_wp2_with fail;refine HAdd.out.mono ?_;rintro e w6 ⟨B3,v',X',rfl,hS',hX',ha',hf',ht',hK',ho'⟩;have haX:aS X'=aS (D++[fr]):=by
       rw [ha'];exact aS_more HI.out.2.2.1 [fr]
      have hn01:=HS0.out;have hown:∀ i,v.ownBlock=some i→n0+1≤i:=fun i e=>by
       have h1:=HOwn.out.1 i e;have h2:i≠n0:=fun e2=>HI.out.1.sne (by rw [e,e2])
       omega
      have hne:∀ i,i<n0→¬ (i=n0∨v.ownBlock=some i):=fun i hi e=>by
       rcases e with e | e
       ·omega
       ·have:=hown i e
        omega
      have R7:=hid (show Rb w (w.heap.size+1) w6 from ⟨R6.out.out.keep hK' (hne _ (by omega)),R6.out.keep.next hK' (fun i e hi=>hne i (by omega) e),R6.out.lt⟩)
      have HF6:=hid (And.intro haX (And.intro hf' ht'))
      have HN6:=hid (show Sm w6 (fun k=>ok k∧k<w.heap.size) n0 n0 v' X' M∧(∀ t ∈ X',Rs t)∧Keep (fun k=>k=n0) W0 w6∧At w6 w.heap.size 47 #[.int .u8 (b:Int),.int .i64 M] from
       ⟨hS',hX',((HI.out.2.2.2.2.1.trans (HKc.out.1.mono (fun _ h=>h.elim))).next hK' (fun i e hi=>by
        rcases e with e | e
        ·exact e
        ·have:=hown i e
         omega)),(HI.out.2.2.2.2.2.1.keep HKc.out.1 (fun h=>h)).keep hK' (hne _ (by omega))⟩)
      obtain ⟨dt,hdt,-⟩:=id HN1.out.2.2.2.1;have HEm:=hid (empty_any t dt hdt bl (off+k * 8) a1 c1 w6 ((HN1.out.1.keepF HKc.out.1).keep hK' (hne _ (by have:=HN1.out.2.2.2.2;omega))) (((HN1.out.2.1.keepF HKc.out.1).keep hK' (fun i hi=>hne i (by have:=hi.2;omega))).mono fun _ _=>trivial))
      rw [HTk.out.2.2.2.2.2.2.2.2.2.2.1] at HEm;clear hS' hX' ha' hf' ht' hK' ho' haX hn01 hown hne y0 y1 y2 y3 y4 y5 y6 y7 hdt
      cases B3
      ·have HNo:=hid (show ¬ (cnt tt:Int)≤M from fun h=>by
        have h1:=HF6.out.2.1 rfl;have h2:=aS_alt (aS_more HI.out.2.2.1 [fr]);rw [h2] at h1;have h3:=alt_mono (D++[fr]) (if nb=true then pC b R else [])
        rw [List.append_assoc,List.singleton_append,HTk.out.1,HT.out] at h3
        omega)
       obtain ⟨⟨d0,d1,d2,d3,d4,d5,d6,d7⟩,f0,f1,f2,f3,f4,f5,f6,f7⟩:=cells8 R7.out.out;have hlt6:=R7.out.out.lt;go_wp2_with fail
       change bodyPost _ _ _ _ _ (putNd w6 (w.heap.size+1) 0 zT none 0)
       have hP:=ofd_no (ok:=ok) (y:=tt) (M:=M) R7.out (by have:=HNo.out;omega)
       generalize (putNd w6 (w.heap.size+1) 0 zT none 0)=W8 at hP ⊢;obtain ⟨⟨e0,e1,e2,e3,e4,e5,e6,e7⟩,-⟩:=cells8 hP.1;exact bodyPost_ret (v:=.tuple #[nodeV zT none 0,.bool false]) (by simp [results,Try.results34,go_sem,e0,e1,e2,e3,e4,e5,e6,e7]) rfl hP.2
      ·have HBd:=hid (H0.out.2.2.sum (k:=k) (by have:=lenL L;omega) HI.out.2.2.2.1 HL4.out (HF6.out.2.2 rfl))
       go_wp2_with fail;refine HEm.out.mono ?_;rintro e w7 ⟨rfl,rfl⟩
       cases nb
       ·have hTT:altT X'=tt:=by
         have h1:=HTk.out.1;rw [if_neg (by decide)] at h1
         rw [aS_alt HF6.out.1,h1,HT.out]
        obtain ⟨BE,hBE⟩:∃ B,decide ((cnt tt:Int)≤M)=B:=⟨_,rfl⟩;have HWh:=hid (whole_any w6 HN6.out.1.at_ HN6.out.1.row HN6.out.1.sne HN6.out.2.1 (by have:=H0.out.2.2.small (k:=k+1) (by have:=lenL L;omega) HBd.out;omega) (M:=M) (B:=BE) (by rw [hTT];exact hBE))
        rw [hTT] at HWh;have HB9:=hid hBE;clear hTT hBE;go_wp2_with fail;refine HWh.out.mono ?_;rintro e w8 ⟨⟨vv,rfl,ka,kc,rfl,hle,hlie⟩,q8⟩;have R8:=hid (R7.out.next q8)
        have N8:=hid (And.intro hle (hlie.mono (ok':=fun k=>(ok k∨w.heap.size≤k)∧k≠w.heap.size+1) (fun k hk=>by
         have h1:=HZ.out;have h3:=R7.out.out.lt
         rcases hk with hk | hk
         ·rcases hk.1 with h2 | h2
          ·exact ⟨.inl h2.1,by have:=h2.2;omega⟩
          ·exact ⟨.inr (by omega),by omega⟩
         ·exact ⟨.inr (by omega),by omega⟩)))
        clear hle hlie q8;obtain ⟨⟨d0,d1,d2,d3,d4,d5,d6,d7⟩,f0,f1,f2,f3,f4,f5,f6,f7⟩:=cells8 R8.out.out;have hlt6:=R8.out.out.lt;go_wp2_with fail
        change bodyPost _ _ _ _ _ (putNd w8 (w.heap.size+1) 0 tt ka kc)
        have hP:=R8.out.put tt ka kc;have hG:=R8.out.gives (ok:=ok) (t:=tt) N8.out.1 N8.out.2;generalize (putNd w8 (w.heap.size+1) 0 tt ka kc)=W8 at hP hG ⊢;obtain ⟨⟨e0,e1,e2,e3,e4,e5,e6,e7⟩,-⟩:=cells8 hP.1;exact bodyPost_ret (v:=.tuple #[nodeV tt ka kc,.bool BE]) (by simp [results,Try.results34,go_sem,e0,e1,e2,e3,e4,e5,e6,e7]) rfl ⟨tt,by rw [HB9.out];exact giveB hG,fun _=>rfl⟩
       ·have hD:(D++[fr])++pC b (L.drop (k+1))=pC b L:=by
         have h1:=HTk.out.1;rw [if_pos rfl] at h1;rw [List.append_assoc,List.singleton_append,HTk.out.2.2.2.2.2.2.2.2.2.1];exact h1
        have HD:=hid hD;clear hD;go_wp2_with fail
        go_roundg (L.length - (k+1))
        case measure=>omega
        case rel=>exact ⟨k+1,v',X',D++[fr],by go_num,by omega,HN6.out.1,HN6.out.2.1,HF6.out.1,HD.out,HBd.out,HN6.out.2.2.1,HN6.out.2.2.2,R7.out.out⟩
  ·have hke:k=L.length:=by omega
   subst hke;rw [List.drop_length,pC,List.append_nil] at hXd;subst hXd;have hTT:altT X=tt:=by rw [aS_alt hXa,HT.out]
   obtain ⟨BE,hBE⟩:∃ B,decide ((cnt tt:Int)≤M)=B:=⟨_,rfl⟩;have HWh:=hid (whole_any wr hS.at_ hS.row hS.sne hX (by have:=H0.out.2.2.small (k:=L.length) (lenL L) hXb;omega) (M:=M) (B:=BE) (by rw [hTT];exact hBE))
   rw [hTT] at HWh;have R7:=hid (show Rb w (w.heap.size+1) wr from ⟨hrs,KW.out,by omega⟩)
   have HB9:=hid hBE;clear hS hX hXa hXb hq hbx hrs hTT hBE hb0 hb1;go_wp2_with fail;refine HWh.out.mono ?_;rintro e w8 ⟨⟨vv,rfl,ka,kc,rfl,hle,hlie⟩,q8⟩;have R8:=hid (R7.out.next q8)
   have N8:=hid (And.intro hle (hlie.mono (ok':=fun k=>(ok k∨w.heap.size≤k)∧k≠w.heap.size+1) (fun k hk=>by
    have h1:=HZ.out;have h3:=R7.out.out.lt
    rcases hk with hk | hk
    ·rcases hk.1 with h2 | h2
     ·exact ⟨.inl h2.1,by have:=h2.2;omega⟩
     ·exact ⟨.inr (by omega),by omega⟩
    ·exact ⟨.inr (by omega),by omega⟩)))
   clear hle hlie q8;obtain ⟨⟨d0,d1,d2,d3,d4,d5,d6,d7⟩,f0,f1,f2,f3,f4,f5,f6,f7⟩:=cells8 R8.out.out;have hlt6:=R8.out.out.lt;go_wp2_with fail
   change bodyPost _ _ _ _ _ (putNd w8 (w.heap.size+1) 0 tt ka kc)
   have hP:=R8.out.put tt ka kc;have hG:=R8.out.gives (ok:=ok) (t:=tt) N8.out.1 N8.out.2;generalize (putNd w8 (w.heap.size+1) 0 tt ka kc)=W8 at hP hG ⊢;obtain ⟨⟨e0,e1,e2,e3,e4,e5,e6,e7⟩,-⟩:=cells8 hP.1;exact bodyPost_ret (v:=.tuple #[nodeV tt ka kc,.bool BE]) (by simp [results,Try.results34,go_sem,e0,e1,e2,e3,e4,e5,e6,e7]) rfl ⟨tt,by rw [HB9.out];exact giveB hG,fun _=>rfl⟩
end P12
namespace P12
open Go.RowKit Base Bytes P07 P08 P09 P10
open Sets (ST)
theorem not_no {t:T} (h:t.kind≠2):isNo t=false:=by
 cases e:isNo t with
 | false=>rfl
 | true=>exact absurd (is_no e) h
theorem rep_no {t:T} (h:isNo t=false) (lo hi:Int):isNo (repP t lo hi)=false:=by
 unfold repP
 split
 ·exact isNo_epsT
 split
 ·exact h
 split
 ·exact not_no (by rcases star_kind _ t (Nat.lt_succ_self _) with h | h <;> rw [h] <;> decide)
 ·exact not_no (by show (5:Int)≠2;decide)
theorem ofRep_any (b:Nat) (M:Int) (t u:T) (hk:t.kind=5) (hsub:t.subs=[u]) (hRs:Rs t) (hReg:Reg M (cnt t)) (hOf:BhOk b M u) (bl o:Nat) (a:Option Addr) (c:Nat) (ok:Nat→Prop) (w:World) (hN:NodeP w bl o t a c) (hL:Lie w ok a t.subs) (_hc:t.subs.length≤c) :
  Calls Try.prog 36 #[bhV b M,.pointer (some ⟨bl,o,none⟩)] w (Ofd w ok (byR b t.mn t.mx t.subs) M):=by
 obtain ⟨d,hR,hS⟩:=id hRs;obtain ⟨u',mn,mx,et,m0,m1,bx,hI⟩:=rep_is hR hk;have huu:u'=u:=by
  rw [et] at hsub;have hsub:[u']=[u]:=hsub;injection hsub
 subst huu;have hsm:t.mx≠0∧isNo u'=false:=by
  have h1:=hS;rw [et,smp_nd] at h1;have h2:=h1.2.2.2 rfl;rw [et];exact ⟨h2.1,(h2.2 u' (by simp)).2.1⟩
 have emn:t.mn=mn:=by rw [et];rfl
 have emx:t.mx=mx:=by rw [et];rfl
 have hu:=hRs.sub u' (by rw [hsub];simp)
 have hSu:Smp u':=smp_subs hS u' (by rw [hsub];simp)
 have hrr:=rs_rep hI hSu m0 m1 bx (by rw [← emx];exact hsm.1)
 have hcu:cnt u'+1≤cnt t:=by rw [cnt_eq t,hsub,cntL,cntL];omega
 have hmx:(if 0<t.mx then t.mx - 1 else t.mx)=max (t.mx - 1) (-1):=by split <;> omega
 rw [hsub,byR];obtain ⟨lb,hlb⟩:∃ lb,byT b u'=lb:=⟨_,rfl⟩;obtain ⟨rp,hrp⟩:∃ rp,repP u' (max (t.mn - 1) 0) (max (t.mx - 1) (-1))=rp:=⟨_,rfl⟩;rw [← emn,← emx,hmx,hrp] at hrr;rw [hmx,hlb,hrp];obtain ⟨tt,htt⟩:∃ tt,catT [lb,rp]=tt:=⟨_,rfl⟩;rw [htt];have hbr:=by_rs b u' hu;rw [hlb] at hbr;have hrn:isNo rp=false:=by rw [← hrp];exact rep_no hsm.2 _ _
 obtain ⟨bs,os,a1,c1,rfl,hokb,hbl,le1,L1,C1⟩:=hL.get (i:=0) (t:=u') (by rw [hsub];rfl)
 have NU:NodeP w bs os u' a1 c1:=⟨hbl,fun j v hv=>by have:=C1 j v hv;rw [Nat.zero_mul,Nat.add_zero] at this;exact this⟩
 have hl1:t.subs.length=1:=by rw [hsub];rfl
 have q0:=((Keep.refl (fun _=>False) w).alloc (.cells #[.int .u8 (b:Int),.int .i64 M] 47)).alloc (.cells nzeros 27)
 have a0:=(At.new w #[.int .u8 (b:Int),.int .i64 M] 47).alloc (.cells nzeros 27);have a2:=At.new (w.alloc (.cells #[.int .u8 (b:Int),.int .i64 M] 47)) nzeros 27;rw [show (w.alloc (.cells #[.int .u8 (b:Int),.int .i64 M] 47)).heap.size=w.heap.size+1 from by simp] at a2
 have hs0:((w.alloc (.cells #[.int .u8 (b:Int),.int .i64 M] 47)).alloc (.cells nzeros 27)).heap.size=w.heap.size+2:=by simp
 have HA:=hid (And.intro a0 (And.intro q0 (And.intro (L1.under.keepF q0) (And.intro (NU.keepF q0) (And.intro (hN.keepF q0) (show bs<w.heap.size∧bl<w.heap.size from ⟨hbl,hN.lt⟩))))))
 have HR:=hid (show Rb w (w.heap.size+1) _ from ⟨a2,q0,by omega⟩)
 have hRegu:=hReg.le (show cnt u'≤cnt t by omega)
 obtain ⟨B,hB⟩:∃ B,decide ((cnt lb:Int)≤M)=B:=⟨_,rfl⟩;have HX:=hid (And.intro hu (And.intro hRegu (And.intro hbr (And.intro hrr (And.intro hrn (And.intro hB (And.intro htt (And.intro le1 (And.intro hReg (And.intro hcu (And.intro hlb hrp)))))))))));have HOf0:=hid hOf;have nmx:(t.mx == 0)=false:=by simpa using hsm.1
 have hwn:IntKind.i64.wrap (t.mn - 1)=t.mn - 1:=by rw [IntKind.wrap_i64];omega
 have hwx:IntKind.i64.wrap (t.mx - 1)=t.mx - 1:=by rw [IntKind.wrap_i64];omega
 have HZ:=hid hs0;clear q0 a0 a2 hL hRs hReg hOf hN hR hS et m0 m1 bx hI hsm emn emx hu hSu hrr hcu hmx hbr hrn hokb hbl le1 L1 C1 NU hs0 hRegu hB htt hlb hrp hsub
 go_enter Try.func36,Try.ntmps36
 go_upto_region 1 with fail;generalize ((w.alloc (.cells #[.int .u8 (b:Int),.int .i64 M] 47)).alloc (.cells nzeros 27))=W0 at *;obtain ⟨n0,n1,n2,n3,n4,n5,n6,n7⟩:=HA.out.2.2.2.2.1.eight;rw [hl1] at n7;go_upto_region 3 with fail;have HOf:=hid (fun W (q:Keep (fun _=>False) W0 W)=>HOf0.out HX.out.1 HX.out.2.1 bs os a1 c1 (fun k=>ok k∧k<w.heap.size) W (HA.out.2.2.2.1.keepF q) (HA.out.2.2.1.keepF q) HX.out.2.2.2.2.2.2.2.1)
 unfold Ofd at HOf;rw [HX.out.2.2.2.2.2.2.2.2.2.2.1,HX.out.2.2.2.2.2.1] at HOf
 have HS:=hid (fun (W':World) (q:Keep (fun _=>False) W0 W')=>(show (W'.cell? ⟨w.heap.size,0,none⟩=some (.int .u8 b)∧W'.cell? ⟨w.heap.size,1,none⟩=some (.int .i64 M))∧(W'.cell? ⟨bl,o,none⟩=some (.int .i64 t.kind)∧W'.cell? ⟨bl,o+1,none⟩=some (.int .u64 t.set.x0)∧W'.cell? ⟨bl,o+2,none⟩=some (.int .u64 t.set.x1)∧W'.cell? ⟨bl,o+3,none⟩=some (.int .u64 t.set.x2)∧W'.cell? ⟨bl,o+4,none⟩=some (.int .u64 t.set.x3)∧W'.cell? ⟨bl,o+5,none⟩=some (.int .i64 t.mn)∧W'.cell? ⟨bl,o+6,none⟩=some (.int .i64 t.mx)∧W'.cell? ⟨bl,o+7,none⟩=some (.slice (some ⟨bs,os,none⟩) 1 c)) from ⟨⟨(HA.out.1.keep q (fun h=>h)).cell (o:=0) rfl,(HA.out.1.keep q (fun h=>h)).cell (o:=1) rfl⟩,by
  have:=(HA.out.2.2.2.2.1.keepF q).eight;rw [hl1] at this
  exact this⟩))
 have Kc:=hid ((Keep.refl (fun _=>False) W0).drew)
 go_cut [6,7] (fun x y wx=>∃ g lf ja jc,x=.pointer (some ⟨g,0,none⟩)∧y=.bool B∧(At wx g 27 (ncells lf ja jc)∧lf.subs.length≤jc∧Lie wx (fun k=>(ok k∨w.heap.size≤k)∧k≠w.heap.size+1) ja lf.subs∧Keep (fun _=>False) W0 wx∧W0.heap.size≤g)∧((cnt lb:Int)≤M→lf=lb))
 case first =>
   refine wp_region_noPanic ?_;refine wp_region_held_drew (S:=(fun W=>(W.cell? ⟨w.heap.size,0,none⟩=some (.int .u8 b)∧W.cell? ⟨w.heap.size,1,none⟩=some (.int .i64 M))∧(W.cell? ⟨bl,o,none⟩=some (.int .i64 t.kind)∧W.cell? ⟨bl,o+1,none⟩=some (.int .u64 t.set.x0)∧W.cell? ⟨bl,o+2,none⟩=some (.int .u64 t.set.x1)∧W.cell? ⟨bl,o+3,none⟩=some (.int .u64 t.set.x2)∧W.cell? ⟨bl,o+4,none⟩=some (.int .u64 t.set.x3)∧W.cell? ⟨bl,o+5,none⟩=some (.int .i64 t.mn)∧W.cell? ⟨bl,o+6,none⟩=some (.int .i64 t.mx)∧W.cell? ⟨bl,o+7,none⟩=some (.slice (some ⟨bs,os,none⟩) 1 c)))) (by kernel_rfl) ?_ (fun hHeld=>?_)
   ·exact HS.out _ ((Keep.refl _ _).drew)
   refine wpAnyH_take (i:=0) (oi:=⟨_,_,_,_,_,_⟩) (v:=?_) rfl (by kernel_rfl) (by kernel_rfl) (by kernel_rfl) (fun _ _ _ h=>h) (Or.inl ⟨by rfl,?_⟩) (by assumption) ?_
   rotate_left 1
   ·(intro w hSw;(try dsimp only at hSw);go_simp;first | done | with_reducible rfl)
   try simp only [Act.put,List.setIfInBounds_toArray,List.set_cons_zero,List.set_cons_succ]
   refine wpAnyH_take (i:=1) (oi:=⟨_,_,_,_,_,_⟩) (v:=?_) rfl (by kernel_rfl) (by kernel_rfl) (by kernel_rfl) (fun _ _ _ h=>h) (Or.inl ⟨by rfl,?_⟩) (by assumption) ?_
   rotate_left 1
   ·(intro w hSw;(try dsimp only at hSw);go_simp;first | done | with_reducible rfl)
   try simp only [Act.put,List.setIfInBounds_toArray,List.set_cons_zero,List.set_cons_succ]
   refine wpAnyH_take (i:=2) (oi:=⟨_,_,_,_,_,_⟩) (v:=?_) rfl (by kernel_rfl) (by kernel_rfl) (by kernel_rfl) (fun _ _ _ h=>h) (Or.inl ⟨by rfl,?_⟩) (by assumption) ?_
   rotate_left 1
   ·(intro w hSw;(try dsimp only at hSw);go_simp;first | done | with_reducible rfl)
   try simp only [Act.put,List.setIfInBounds_toArray,List.set_cons_zero,List.set_cons_succ]
   refine wpAnyH_take (i:=3) (oi:=⟨_,_,_,_,_,_⟩) (v:=?_) rfl (by kernel_rfl) (by kernel_rfl) (by kernel_rfl) (fun _ _ _ h=>h) (Or.inl ⟨by rfl,?_⟩) (by assumption) ?_
   rotate_left 1
   ·(intro w hSw;(try dsimp only at hSw);go_simp;first | done | with_reducible rfl)
   try simp only [Act.put,List.setIfInBounds_toArray,List.set_cons_zero,List.set_cons_succ]
   refine wpAnyH_take (i:=4) (oi:=⟨_,_,_,_,_,_⟩) (v:=?_) rfl (by kernel_rfl) (by kernel_rfl) (by kernel_rfl) (fun _ _ _ h=>h) (Or.inl ⟨by rfl,?_⟩) (by assumption) ?_
   rotate_left 1
   ·(intro w hSw;(try dsimp only at hSw);go_simp;first | done | with_reducible rfl)
   try simp only [Act.put,List.setIfInBounds_toArray,List.set_cons_zero,List.set_cons_succ]
   refine wpAnyH_take (i:=5) (oi:=⟨_,_,_,_,_,_⟩) (v:=?_) rfl (by kernel_rfl) (by kernel_rfl) (by kernel_rfl) (fun _ _ _ h=>h) (Or.inl ⟨by rfl,?_⟩) (by assumption) ?_
   rotate_left 1
   ·(intro w hSw;(try dsimp only at hSw);go_simp;first | done | with_reducible rfl)
   try simp only [Act.put,List.setIfInBounds_toArray,List.set_cons_zero,List.set_cons_succ]
   refine wpAnyH_ready (rs:=[6,10]) (by kernel_rfl) (by simp) ?_
   refine (AllReadyH.cons (o:=⟨_,_,_,_,_,_⟩) rfl (fun K hK=>?_) (AllReadyH.cons (o:=⟨_,_,_,_,_,_⟩) rfl (fun K hK=>?_) AllReadyH.nil))
   go_simp
   (go_at_call 19;refine (HOf.out _ Kc.out).mono ?_;rintro e w5 ⟨lf,⟨⟨vv,rfl,ja,jc,rfl,hle,hlie⟩,q5⟩,hlf⟩)
   have Nc:=hid (And.intro hle (hlie.mono (ok':=fun k=>(ok k∨w.heap.size≤k)∧k≠w.heap.size+1∧k≠w.heap.size+1) (fun k hk=>by have z1:=Kc.out.size;have z2:=HZ.out;rcases hk with hk | hk;exact ⟨.inl hk.1,by have:=hk.2;omega,by have:=hk.2;omega⟩;exact ⟨.inr (by omega),by omega,by omega⟩)))
   have HLf:=hid hlf;have Kc:=hid (Kc.out.trans q5);clear hle hlie q5 hlf;refine hK.out _ _ ?_ (fun hHeld'=>?_)
   ·exact HS.out _ Kc.out
   clear hK K hHeld;have hHeld:=hHeld';clear hHeld'
   try simp only [Act.put,List.setIfInBounds_toArray,List.set_cons_zero,List.set_cons_succ]
   refine wpAnyH_take (i:=7) (oi:=⟨_,_,_,_,_,_⟩) (v:=?_) rfl (by kernel_rfl) (by kernel_rfl) (by kernel_rfl) (fun _ _ _ h=>h) (Or.inl ⟨by rfl,?_⟩) (by assumption) ?_
   rotate_left 1
   ·(intro w hSw;(try dsimp only at hSw);go_simp;first | done | with_reducible rfl)
   try simp only [Act.put,List.setIfInBounds_toArray,List.set_cons_zero,List.set_cons_succ]
   refine wpAnyH_take (i:=8) (oi:=⟨_,_,_,_,_,_⟩) (v:=?_) rfl (by kernel_rfl) (by kernel_rfl) (by kernel_rfl) (fun _ _ _ h=>h) (Or.inl ⟨by rfl,?_⟩) (by assumption) ?_
   rotate_left 1
   ·(intro w hSw;(try dsimp only at hSw);go_simp;first | done | with_reducible rfl)
   try simp only [Act.put,List.setIfInBounds_toArray,List.set_cons_zero,List.set_cons_succ]
   refine wpAnyH_take (i:=9) (oi:=⟨_,_,_,_,_,_⟩) (v:=?_) rfl (by kernel_rfl) (by kernel_rfl) (by kernel_rfl) (fun _ _ _ h=>h) (Or.inl ⟨by rfl,?_⟩) (by assumption) ?_
   rotate_left 1
   ·(intro w hSw;(try dsimp only at hSw);go_simp;first | done | with_reducible rfl)
   try simp only [Act.put,List.setIfInBounds_toArray,List.set_cons_zero,List.set_cons_succ]
   refine wpAnyH_ready (rs:=[10]) (by kernel_rfl) (by simp) ?_
   refine (AllReadyH.cons (o:=⟨_,_,_,_,_,_⟩) rfl (fun K hK=>?_) AllReadyH.nil)
   obtain ⟨g,hg⟩:∃ g,(w5).heap.size=g:=⟨_,rfl⟩;have hA:=At.new (w5) nzeros 27;rw [hg] at hA;have hAg:W0.heap.size≤g:=by rw [← hg];exact Kc.out.size
   have Nc:=hid (And.intro Nc.out.1 ((Nc.out.2.under.keepF ((Keep.refl (fun _=>False) (w5)).alloc (.cells nzeros 27))).mono (ok':=fun k=>(ok k∨w.heap.size≤k)∧k≠w.heap.size+1∧k≠g) (fun k h=>⟨h.1.1,h.1.2.1,by have:=h.2;omega⟩)))
   have Kc:=hid (Kc.out.trans ((Keep.refl (fun _=>False) (w5)).alloc (.cells nzeros 27)))
   have Ac:=hid (And.intro hA hAg);clear hA hAg;go_simp;refine hK.out _ (w5.alloc (.cells nzeros 27)) ?_ (fun hHeld'=>?_)
   ·exact HS.out _ Kc.out
   clear hK K hHeld;have hHeld:=hHeld';clear hHeld';generalize (w5.alloc (.cells nzeros 27))=wA at *
   try simp only [Act.put,List.setIfInBounds_toArray,List.set_cons_zero,List.set_cons_succ]
   refine wpAnyH_ready (rs:=[11]) (by kernel_rfl) (by simp) ?_
   refine (AllReadyH.cons (o:=⟨_,_,_,_,_,_⟩) rfl (fun K hK=>?_) AllReadyH.nil)
   obtain ⟨⟨d0,d1,d2,d3,d4,d5,d6,d7⟩,f0,f1,f2,f3,f4,f5,f6,f7⟩:=cells8 Ac.out.1;have hlt:=Ac.out.1.lt;have HF:=hid (fin_nodeC (X:=lf) (E':=(fun k=>(ok k∨w.heap.size≤k)∧k≠w.heap.size+1)) Kc.out Ac.out.1 Ac.out.2 Nc.out.1 Nc.out.2 (fun k h=>⟨⟨h.1,h.2.1⟩,h.2.2⟩))
   go_simp;refine hK.out _ (putNd wA g 0 lf ja jc) ?_ (fun hHeld'=>?_)
   ·exact HS.out _ HF.out.2.2.2.1
   clear hK K hHeld;have hHeld:=hHeld';clear hHeld';generalize (putNd wA g 0 lf ja jc)=wP at *
   try simp only [Act.put,List.setIfInBounds_toArray,List.set_cons_zero,List.set_cons_succ]
   refine wpAnyH_take (i:=12) (oi:=⟨_,_,_,_,_,_⟩) (v:=?_) rfl (by kernel_rfl) (by kernel_rfl) (by kernel_rfl) (fun _ _ _ h=>h) (Or.inl ⟨by rfl,?_⟩) (by assumption) ?_
   rotate_left 1
   ·(intro w hSw;(try dsimp only at hSw);go_simp;first | done | with_reducible rfl)
   try simp only [Act.put,List.setIfInBounds_toArray,List.set_cons_zero,List.set_cons_succ]
   refine wpAnyH_done (by kernel_rfl) ?_ _
   refine NoPanic.normal ?_;rotate_left 1;obtain ⟨g,hg⟩:∃ g,(W0.drew).heap.size=g:=⟨_,rfl⟩;have hA:=At.new (W0.drew) nzeros 27;rw [hg] at hA;have hAg:W0.heap.size≤g:=by rw [← hg];exact Kc.out.size
   have Kc:=hid (Kc.out.trans ((Keep.refl (fun _=>False) (W0.drew)).alloc (.cells nzeros 27)))
   have Ac:=hid (And.intro hA hAg);clear hA hAg;go_simp;refine hK.out _ (W0.drew.alloc (.cells nzeros 27)) ?_ (fun hHeld'=>?_)
   ·exact HS.out _ Kc.out
   clear hK K hHeld;have hHeld:=hHeld';clear hHeld';generalize (W0.drew.alloc (.cells nzeros 27))=wA at *
   try simp only [Act.put,List.setIfInBounds_toArray,List.set_cons_zero,List.set_cons_succ]
   refine wpAnyH_ready (rs:=[6]) (by kernel_rfl) (by simp) ?_
   refine (AllReadyH.cons (o:=⟨_,_,_,_,_,_⟩) rfl (fun K hK=>?_) AllReadyH.nil)
   go_simp
   (go_at_call 19;refine (HOf.out _ Kc.out).mono ?_;rintro e w5 ⟨lf,⟨⟨vv,rfl,ja,jc,rfl,hle,hlie⟩,q5⟩,hlf⟩)
   have Nc:=hid (And.intro hle (hlie.mono (ok':=fun k=>(ok k∨w.heap.size≤k)∧k≠w.heap.size+1∧k≠g) (fun k hk=>by have z1:=Kc.out.size;have z2:=HZ.out;have z3:=Ac.out.1.lt;have z4:=Ac.out.2;rcases hk with hk | hk;exact ⟨.inl hk.1,by have:=hk.2;omega,by have:=hk.2;omega⟩;exact ⟨.inr (by omega),by omega,by omega⟩)))
   have HLf:=hid hlf;have Ac:=hid (And.intro (Ac.out.1.keep q5 (fun h=>h)) Ac.out.2)
   have Kc:=hid (Kc.out.trans q5);clear hle hlie q5 hlf;refine hK.out _ _ ?_ (fun hHeld'=>?_)
   ·exact HS.out _ Kc.out
   clear hK K hHeld;have hHeld:=hHeld';clear hHeld'
   try simp only [Act.put,List.setIfInBounds_toArray,List.set_cons_zero,List.set_cons_succ]
   refine wpAnyH_take (i:=7) (oi:=⟨_,_,_,_,_,_⟩) (v:=?_) rfl (by kernel_rfl) (by kernel_rfl) (by kernel_rfl) (fun _ _ _ h=>h) (Or.inl ⟨by rfl,?_⟩) (by assumption) ?_
   rotate_left 1
   ·(intro w hSw;(try dsimp only at hSw);go_simp;first | done | with_reducible rfl)
   try simp only [Act.put,List.setIfInBounds_toArray,List.set_cons_zero,List.set_cons_succ]
   refine wpAnyH_take (i:=8) (oi:=⟨_,_,_,_,_,_⟩) (v:=?_) rfl (by kernel_rfl) (by kernel_rfl) (by kernel_rfl) (fun _ _ _ h=>h) (Or.inl ⟨by rfl,?_⟩) (by assumption) ?_
   rotate_left 1
   ·(intro w hSw;(try dsimp only at hSw);go_simp;first | done | with_reducible rfl)
   try simp only [Act.put,List.setIfInBounds_toArray,List.set_cons_zero,List.set_cons_succ]
   refine wpAnyH_take (i:=9) (oi:=⟨_,_,_,_,_,_⟩) (v:=?_) rfl (by kernel_rfl) (by kernel_rfl) (by kernel_rfl) (fun _ _ _ h=>h) (Or.inl ⟨by rfl,?_⟩) (by assumption) ?_
   rotate_left 1
   ·(intro w hSw;(try dsimp only at hSw);go_simp;first | done | with_reducible rfl)
   try simp only [Act.put,List.setIfInBounds_toArray,List.set_cons_zero,List.set_cons_succ]
   refine wpAnyH_ready (rs:=[11]) (by kernel_rfl) (by simp) ?_
   refine (AllReadyH.cons (o:=⟨_,_,_,_,_,_⟩) rfl (fun K hK=>?_) AllReadyH.nil)
   obtain ⟨⟨d0,d1,d2,d3,d4,d5,d6,d7⟩,f0,f1,f2,f3,f4,f5,f6,f7⟩:=cells8 Ac.out.1;have hlt:=Ac.out.1.lt;have HF:=hid (fin_nodeC (X:=lf) (E':=(fun k=>(ok k∨w.heap.size≤k)∧k≠w.heap.size+1)) Kc.out Ac.out.1 Ac.out.2 Nc.out.1 Nc.out.2 (fun k h=>⟨⟨h.1,h.2.1⟩,h.2.2⟩))
   go_simp;refine hK.out _ (putNd w5 g 0 lf ja jc) ?_ (fun hHeld'=>?_)
   ·exact HS.out _ HF.out.2.2.2.1
   clear hK K hHeld;have hHeld:=hHeld';clear hHeld';generalize (putNd w5 g 0 lf ja jc)=wP at *
   try simp only [Act.put,List.setIfInBounds_toArray,List.set_cons_zero,List.set_cons_succ]
   refine wpAnyH_take (i:=12) (oi:=⟨_,_,_,_,_,_⟩) (v:=?_) rfl (by kernel_rfl) (by kernel_rfl) (by kernel_rfl) (fun _ _ _ h=>h) (Or.inl ⟨by rfl,?_⟩) (by assumption) ?_
   rotate_left 1
   ·(intro w hSw;(try dsimp only at hSw);go_simp;first | done | with_reducible rfl)
   try simp only [Act.put,List.setIfInBounds_toArray,List.set_cons_zero,List.set_cons_succ]
   refine wpAnyH_done (by kernel_rfl) ?_ _
   refine NoPanic.normal ?_;rotate_left 1
   all_goals
    go_wp2_with fail
    go_meet
    case rel=>exact ⟨g,lf,ja,jc,rfl,rfl,HF.out,HLf.out⟩
 case rest =>
  obtain ⟨g,lf,ja,jc,rfl,rfl,⟨hA,hle,hlie,hK,hg⟩,hlf⟩:=hcut;obtain ⟨wx,hw⟩:∃ z,z=wc:=⟨_,rfl⟩;subst hw;have HC:=hid (And.intro hA (And.intro hle (And.intro hlie (And.intro hK hg))));have R6:=hid (HR.out.next hK);clear n0 n1 n2 n3 n4 n5 n6 n7;obtain ⟨⟨y0,y1,y2,y3,y4,y5,y6,y7⟩,-⟩:=cells8 hA;clear hA hle hlie hK hg;have hone:(show Prop from True):=trivial
  cases B
  ·have hno:¬ (cnt tt:Int)≤M:=fun h=>by
    have h1:=of_decide_eq_false HX.out.2.2.2.2.2.1;have hnn:isNo lb=false:=by
     cases e:isNo lb with
     | false=>rfl
     | true =>
      obtain ⟨d,hd,-⟩:=HX.out.2.2.1.1;rw [no_is hd e,show cnt noT=1 from cnt_clsT _] at h1
      exact absurd HX.out.2.1.pos.1 h1
    have h2:=cat_ge HX.out.2.2.1.1 hnn (l:=[rp]) fun z hz=>by rw [List.mem_singleton.1 hz];exact ⟨HX.out.2.2.2.1.1,HX.out.2.2.2.2.1⟩
    rw [HX.out.2.2.2.2.2.2.1] at h2;omega
   have HNo:=hid (decide_eq_false hno);have HNN:=hid hno;clear hno hlf;obtain ⟨⟨d0,d1,d2,d3,d4,d5,d6,d7⟩,f0,f1,f2,f3,f4,f5,f6,f7⟩:=cells8 R6.out.out;have hlt6:=R6.out.out.lt;go_wp2_with fail
   change bodyPost _ _ _ _ _ (putNd wx (w.heap.size+1) 0 lf ja jc)
   have hP:=R6.out.put lf ja jc;have hG:=R6.out.gives (ok:=ok) (t:=lf) HC.out.2.1 HC.out.2.2.1;generalize (putNd wx (w.heap.size+1) 0 lf ja jc)=W8 at hP hG ⊢;obtain ⟨⟨e0,e1,e2,e3,e4,e5,e6,e7⟩,-⟩:=cells8 hP.1;exact bodyPost_ret (v:=.tuple #[nodeV lf ja jc,.bool false]) (by simp [results,Try.results36,go_sem,e0,e1,e2,e3,e4,e5,e6,e7]) rfl ⟨lf,by rw [HNo.out];exact giveB hG,fun h=>absurd h (by have:=HNo.out;exact of_decide_eq_false this)⟩
  ·have hlm:=of_decide_eq_true HX.out.2.2.2.2.2.1
   obtain rfl:lf=lb:=hlf hlm;obtain ⟨nl,hnl⟩:∃ nl,isNo lf=nl:=⟨_,rfl⟩;have HNl:=hid (isno_any lf g 0 ja jc wx (NodeP.of_at HC.out.1));rw [hnl] at HNl;have HLM:=hid (And.intro hlm hnl);clear hlm hlf hnl;go_wp2_with fail;refine HNl.out.mono ?_;rintro e w7 ⟨rfl,rfl⟩
   cases nl
   ·obtain ⟨B9,hB9⟩:∃ B,decide ((cnt tt:Int)≤M)=B:=⟨_,rfl⟩
    have HB9:=hid hB9;have HZX:=hid (show w.heap.size+2≤wx.heap.size by have:=HC.out.2.2.2.1.size;have:=HZ.out;omega)
    have hcl:cnt lf≤4000:=HX.out.2.1.cap HLM.out.1 (by have:=HX.out.2.2.1.2;omega)
    have hcr:cnt rp≤1+cnt u':=HX.out.2.2.2.1.2;have hcu4:cnt u'≤4000:=HX.out.2.1.1
    have HRe:=hid (fun W (q:Keep (fun _=>False) wx W)=>by
     obtain ⟨d,hd,-⟩:=HX.out.1;have:=xrep_any u' d hd (max (t.mn - 1) 0) (max (t.mx - 1) (-1)) a1 c1 (fun k=>ok k∧k<w.heap.size) W (HA.out.2.2.1.keepF (HC.out.2.2.2.1.trans q)) HX.out.2.2.2.2.2.2.2.1 (by omega)
     rw [HX.out.2.2.2.2.2.2.2.2.2.2.2] at this
     exact this)
    have HFol:=hid (fun (la:Option Addr) (W:World) (q:Keep (fun _=>False) wx W) (hla:Lie W (fun k=>(ok k∨w.heap.size≤k)∧k≠w.heap.size+1) la [rp])=>by
     obtain ⟨d,hd,-⟩:=HX.out.2.2.1.1
     have:=followed_any b M HX.out.2.1.pos.1 lf hd [rp] (by rw [cntL,cntL,cntL];omega) (by
      intro z hz
      rcases mem_unf hz with ⟨hm,-⟩ | ⟨y,hy,-,hm⟩
      ·simp only [List.mem_cons,List.not_mem_nil,or_false] at hm
       rcases hm with rfl | rfl
       ·exact ok_of hd
       ·obtain ⟨d2,h2,-⟩:=HX.out.2.2.2.1.1
        exact ok_of h2
      ·simp only [List.mem_cons,List.not_mem_nil,or_false] at hy
       rcases hy with rfl | rfl
       ·exact ok_of (sub_right hd.subs z hm)
       ·obtain ⟨d2,h2,-⟩:=HX.out.2.2.2.1.1
        exact ok_of (sub_right h2.subs z hm)) (B:=B9) (by rw [HX.out.2.2.2.2.2.2.1];exact HB9.out) ja jc HC.out.2.1 la 1 (fun k=>(ok k∨w.heap.size≤k)∧k≠w.heap.size+1) W (HC.out.2.2.1.keepF q) hla
     rw [HX.out.2.2.2.2.2.2.1] at this
     exact this)
    have HSX:=hid (fun (W':World) (q:Keep (fun b=>b=w.heap.size+1) wx W')=>(show (W'.cell? ⟨w.heap.size,0,none⟩=some (.int .u8 b)∧W'.cell? ⟨w.heap.size,1,none⟩=some (.int .i64 M))∧(W'.cell? ⟨bl,o,none⟩=some (.int .i64 t.kind)∧W'.cell? ⟨bl,o+1,none⟩=some (.int .u64 t.set.x0)∧W'.cell? ⟨bl,o+2,none⟩=some (.int .u64 t.set.x1)∧W'.cell? ⟨bl,o+3,none⟩=some (.int .u64 t.set.x2)∧W'.cell? ⟨bl,o+4,none⟩=some (.int .u64 t.set.x3)∧W'.cell? ⟨bl,o+5,none⟩=some (.int .i64 t.mn)∧W'.cell? ⟨bl,o+6,none⟩=some (.int .i64 t.mx)∧W'.cell? ⟨bl,o+7,none⟩=some (.slice (some ⟨bs,os,none⟩) 1 c))∧(W'.cell? ⟨bs,os,none⟩=some (.int .i64 u'.kind)∧W'.cell? ⟨bs,os+1,none⟩=some (.int .u64 u'.set.x0)∧W'.cell? ⟨bs,os+2,none⟩=some (.int .u64 u'.set.x1)∧W'.cell? ⟨bs,os+3,none⟩=some (.int .u64 u'.set.x2)∧W'.cell? ⟨bs,os+4,none⟩=some (.int .u64 u'.set.x3)∧W'.cell? ⟨bs,os+5,none⟩=some (.int .i64 u'.mn)∧W'.cell? ⟨bs,os+6,none⟩=some (.int .i64 u'.mx)∧W'.cell? ⟨bs,os+7,none⟩=some (.slice a1 u'.subs.length c1))∧(W'.cell? ⟨g,0,none⟩=some (.int .i64 lf.kind)∧W'.cell? ⟨g,1,none⟩=some (.int .u64 lf.set.x0)∧W'.cell? ⟨g,2,none⟩=some (.int .u64 lf.set.x1)∧W'.cell? ⟨g,3,none⟩=some (.int .u64 lf.set.x2)∧W'.cell? ⟨g,4,none⟩=some (.int .u64 lf.set.x3)∧W'.cell? ⟨g,5,none⟩=some (.int .i64 lf.mn)∧W'.cell? ⟨g,6,none⟩=some (.int .i64 lf.mx)∧W'.cell? ⟨g,7,none⟩=some (.slice ja lf.subs.length jc)) from by
     have hz:=HC.out.2.2.2.1.size;have hz0:=HZ.out;have hbx:=(HA.out.1.keep HC.out.2.2.2.1 (fun h=>h)).keep q (fun h=>by have h:w.heap.size=w.heap.size+1:=h;omega)
     have hnd:=((HA.out.2.2.2.2.1.keepF HC.out.2.2.2.1).keep q (fun h=>by have h:bl=w.heap.size+1:=h;have:=HA.out.2.2.2.2.2.2;omega)).eight
     have hud:=((HA.out.2.2.2.1.keepF HC.out.2.2.2.1).keep q (fun h=>by have h:bs=w.heap.size+1:=h;have:=HA.out.2.2.2.2.2.1;omega)).eight
     have hfd:=((NodeP.of_at HC.out.1).keep q (fun h=>by have h:g=w.heap.size+1:=h;have:=HC.out.2.2.2.2;omega)).eight
     rw [hl1] at hnd
     exact ⟨⟨hbx.cell (o:=0) rfl,hbx.cell (o:=1) rfl⟩,hnd,hud,hfd⟩))
    clear hcl hcr hcu4 hB9 y0 y1 y2 y3 y4 y5 y6 y7;go_upto_region 6 with fail;refine wp_region_noPanic ?_;refine wp_region_held_drew (S:=(fun W=>(W.cell? ⟨w.heap.size,0,none⟩=some (.int .u8 b)∧W.cell? ⟨w.heap.size,1,none⟩=some (.int .i64 M))∧(W.cell? ⟨bl,o,none⟩=some (.int .i64 t.kind)∧W.cell? ⟨bl,o+1,none⟩=some (.int .u64 t.set.x0)∧W.cell? ⟨bl,o+2,none⟩=some (.int .u64 t.set.x1)∧W.cell? ⟨bl,o+3,none⟩=some (.int .u64 t.set.x2)∧W.cell? ⟨bl,o+4,none⟩=some (.int .u64 t.set.x3)∧W.cell? ⟨bl,o+5,none⟩=some (.int .i64 t.mn)∧W.cell? ⟨bl,o+6,none⟩=some (.int .i64 t.mx)∧W.cell? ⟨bl,o+7,none⟩=some (.slice (some ⟨bs,os,none⟩) 1 c))∧(W.cell? ⟨bs,os,none⟩=some (.int .i64 u'.kind)∧W.cell? ⟨bs,os+1,none⟩=some (.int .u64 u'.set.x0)∧W.cell? ⟨bs,os+2,none⟩=some (.int .u64 u'.set.x1)∧W.cell? ⟨bs,os+3,none⟩=some (.int .u64 u'.set.x2)∧W.cell? ⟨bs,os+4,none⟩=some (.int .u64 u'.set.x3)∧W.cell? ⟨bs,os+5,none⟩=some (.int .i64 u'.mn)∧W.cell? ⟨bs,os+6,none⟩=some (.int .i64 u'.mx)∧W.cell? ⟨bs,os+7,none⟩=some (.slice a1 u'.subs.length c1))∧(W.cell? ⟨g,0,none⟩=some (.int .i64 lf.kind)∧W.cell? ⟨g,1,none⟩=some (.int .u64 lf.set.x0)∧W.cell? ⟨g,2,none⟩=some (.int .u64 lf.set.x1)∧W.cell? ⟨g,3,none⟩=some (.int .u64 lf.set.x2)∧W.cell? ⟨g,4,none⟩=some (.int .u64 lf.set.x3)∧W.cell? ⟨g,5,none⟩=some (.int .i64 lf.mn)∧W.cell? ⟨g,6,none⟩=some (.int .i64 lf.mx)∧W.cell? ⟨g,7,none⟩=some (.slice ja lf.subs.length jc)))) (by kernel_rfl) ?_ (fun hHeld=>?_)
    ·exact HSX.out _ ((Keep.refl (fun b=>b=w.heap.size+1) wx).drew)
    refine wpAnyH_take (i:=0) (oi:=⟨_,_,_,_,_,_⟩) (v:=?_) rfl (by kernel_rfl) (by kernel_rfl) (by kernel_rfl) (fun _ _ _ h=>h) (Or.inl ⟨by rfl,?_⟩) (by assumption) ?_
    rotate_left 1
    ·(intro w hSw;(try dsimp only at hSw);go_simp;first | done | with_reducible rfl)
    try simp only [Act.put,List.setIfInBounds_toArray,List.set_cons_zero,List.set_cons_succ]
    refine wpAnyH_take (i:=1) (oi:=⟨_,_,_,_,_,_⟩) (v:=?_) rfl (by kernel_rfl) (by kernel_rfl) (by kernel_rfl) (fun _ _ _ h=>h) (Or.inl ⟨by rfl,?_⟩) (by assumption) ?_
    rotate_left 1
    ·(intro w hSw;(try dsimp only at hSw);go_simp;first | done | with_reducible rfl)
    try simp only [Act.put,List.setIfInBounds_toArray,List.set_cons_zero,List.set_cons_succ]
    refine wpAnyH_take (i:=2) (oi:=⟨_,_,_,_,_,_⟩) (v:=?_) rfl (by kernel_rfl) (by kernel_rfl) (by kernel_rfl) (fun _ _ _ h=>h) (Or.inl ⟨by rfl,?_⟩) (by assumption) ?_
    rotate_left 1
    ·(intro w hSw;(try dsimp only at hSw);go_simp;first | done | with_reducible rfl)
    try simp only [Act.put,List.setIfInBounds_toArray,List.set_cons_zero,List.set_cons_succ]
    refine wpAnyH_take (i:=3) (oi:=⟨_,_,_,_,_,_⟩) (v:=?_) rfl (by kernel_rfl) (by kernel_rfl) (by kernel_rfl) (fun _ _ _ h=>h) (Or.inl ⟨by rfl,?_⟩) (by assumption) ?_
    rotate_left 1
    ·(intro w hSw;(try dsimp only at hSw);go_simp;first | done | with_reducible rfl)
    try simp only [Act.put,List.setIfInBounds_toArray,List.set_cons_zero,List.set_cons_succ]
    refine wpAnyH_take (i:=4) (oi:=⟨_,_,_,_,_,_⟩) (v:=?_) rfl (by kernel_rfl) (by kernel_rfl) (by kernel_rfl) (fun _ _ _ h=>h) (Or.inl ⟨by rfl,?_⟩) (by assumption) ?_
    rotate_left 1
    ·(intro w hSw;(try dsimp only at hSw);go_simp;first | done | with_reducible rfl)
    try simp only [Act.put,List.setIfInBounds_toArray,List.set_cons_zero,List.set_cons_succ]
    refine wpAnyH_take (i:=5) (oi:=⟨_,_,_,_,_,_⟩) (v:=?_) rfl (by kernel_rfl) (by kernel_rfl) (by kernel_rfl) (fun _ _ _ h=>h) (Or.inl ⟨by rfl,?_⟩) (by assumption) ?_
    rotate_left 1
    ·(intro w hSw;(try dsimp only at hSw);go_simp;first | done | with_reducible rfl)
    try simp only [Act.put,List.setIfInBounds_toArray,List.set_cons_zero,List.set_cons_succ]
    refine wpAnyH_take (i:=6) (oi:=⟨_,_,_,_,_,_⟩) (v:=?_) rfl (by kernel_rfl) (by kernel_rfl) (by kernel_rfl) (fun _ _ _ h=>h) (Or.inl ⟨by rfl,?_⟩) (by assumption) ?_
    rotate_left 1
    ·(intro w hSw;(try dsimp only at hSw);go_simp;first | done | with_reducible rfl)
    try simp only [Act.put,List.setIfInBounds_toArray,List.set_cons_zero,List.set_cons_succ]
    refine wpAnyH_take (i:=7) (oi:=⟨_,_,_,_,_,_⟩) (v:=?_) rfl (by kernel_rfl) (by kernel_rfl) (by kernel_rfl) (fun _ _ _ h=>h) (Or.inl ⟨by rfl,?_⟩) (by assumption) ?_
    rotate_left 1
    ·(intro w hSw;(try dsimp only at hSw);go_simp;first | done | with_reducible rfl)
    try simp only [Act.put,List.setIfInBounds_toArray,List.set_cons_zero,List.set_cons_succ]
    refine wpAnyH_take (i:=8) (oi:=⟨_,_,_,_,_,_⟩) (v:=?_) rfl (by kernel_rfl) (by kernel_rfl) (by kernel_rfl) (fun _ _ _ h=>h) (Or.inl ⟨by rfl,?_⟩) (by assumption) ?_
    rotate_left 1
    ·(intro w hSw;(try dsimp only at hSw);go_simp;first | done | with_reducible rfl)
    try simp only [Act.put,List.setIfInBounds_toArray,List.set_cons_zero,List.set_cons_succ]
    refine wpAnyH_take (i:=9) (oi:=⟨_,_,_,_,_,_⟩) (v:=?_) rfl (by kernel_rfl) (by kernel_rfl) (by kernel_rfl) (fun _ _ _ h=>h) (Or.inl ⟨by rfl,?_⟩) (by assumption) ?_
    rotate_left 1
    ·(intro w hSw;(try dsimp only at hSw);go_simp;first | done | with_reducible rfl)
    try simp only [Act.put,List.setIfInBounds_toArray,List.set_cons_zero,List.set_cons_succ]
    refine wpAnyH_take (i:=10) (oi:=⟨_,_,_,_,_,_⟩) (v:=?_) rfl (by kernel_rfl) (by kernel_rfl) (by kernel_rfl) (fun _ _ _ h=>h) (Or.inl ⟨by rfl,?_⟩) (by assumption) ?_
    rotate_left 1
    ·(intro w hSw;(try dsimp only at hSw);go_simp;first | done | with_reducible rfl)
    try simp only [Act.put,List.setIfInBounds_toArray,List.set_cons_zero,List.set_cons_succ]
    refine wpAnyH_take (i:=11) (oi:=⟨_,_,_,_,_,_⟩) (v:=?_) rfl (by kernel_rfl) (by kernel_rfl) (by kernel_rfl) (fun _ _ _ h=>h) (Or.inl ⟨by rfl,?_⟩) (by assumption) ?_
    rotate_left 1
    ·(intro w hSw;(try dsimp only at hSw);go_simp;first | done | with_reducible rfl)
    try simp only [Act.put,List.setIfInBounds_toArray,List.set_cons_zero,List.set_cons_succ]
    refine wpAnyH_take (i:=12) (oi:=⟨_,_,_,_,_,_⟩) (v:=?_) rfl (by kernel_rfl) (by kernel_rfl) (by kernel_rfl) (fun _ _ _ h=>h) (Or.inl ⟨by rfl,?_⟩) (by assumption) ?_
    rotate_left 1
    ·(intro w hSw;(try dsimp only at hSw);go_simp;first | done | with_reducible rfl)
    try simp only [Act.put,List.setIfInBounds_toArray,List.set_cons_zero,List.set_cons_succ]
    refine wpAnyH_take (i:=13) (oi:=⟨_,_,_,_,_,_⟩) (v:=?_) rfl (by kernel_rfl) (by kernel_rfl) (by kernel_rfl) (fun _ _ _ h=>h) (Or.inl ⟨by rfl,?_⟩) (by assumption) ?_
    rotate_left 1
    ·(intro w hSw;(try dsimp only at hSw);go_simp;first | done | with_reducible rfl)
    try simp only [Act.put,List.setIfInBounds_toArray,List.set_cons_zero,List.set_cons_succ]
    refine wpAnyH_take (i:=14) (oi:=⟨_,_,_,_,_,_⟩) (v:=?_) rfl (by kernel_rfl) (by kernel_rfl) (by kernel_rfl) (fun _ _ _ h=>h) (Or.inl ⟨by rfl,?_⟩) (by assumption) ?_
    rotate_left 1
    ·(intro w hSw;(try dsimp only at hSw);go_simp;first | done | with_reducible rfl)
    try simp only [Act.put,List.setIfInBounds_toArray,List.set_cons_zero,List.set_cons_succ]
    refine wpAnyH_take (i:=15) (oi:=⟨_,_,_,_,_,_⟩) (v:=?_) rfl (by kernel_rfl) (by kernel_rfl) (by kernel_rfl) (fun _ _ _ h=>h) (Or.inl ⟨by rfl,?_⟩) (by assumption) ?_
    rotate_left 1
    ·(intro w hSw;(try dsimp only at hSw);go_simp;first | done | with_reducible rfl)
    try simp only [Act.put,List.setIfInBounds_toArray,List.set_cons_zero,List.set_cons_succ]
    refine wpAnyH_take (i:=16) (oi:=⟨_,_,_,_,_,_⟩) (v:=?_) rfl (by kernel_rfl) (by kernel_rfl) (by kernel_rfl) (fun _ _ _ h=>h) (Or.inl ⟨by rfl,?_⟩) (by assumption) ?_
    rotate_left 1
    ·(intro w hSw;(try dsimp only at hSw);go_simp;first | done | with_reducible rfl)
    try simp only [Act.put,List.setIfInBounds_toArray,List.set_cons_zero,List.set_cons_succ]
    refine wpAnyH_take (i:=17) (oi:=⟨_,_,_,_,_,_⟩) (v:=?_) rfl (by kernel_rfl) (by kernel_rfl) (by kernel_rfl) (fun _ _ _ h=>h) (Or.inl ⟨by rfl,?_⟩) (by assumption) ?_
    rotate_left 1
    ·(intro w hSw;(try dsimp only at hSw);go_simp;first | done | with_reducible rfl)
    try simp only [Act.put,List.setIfInBounds_toArray,List.set_cons_zero,List.set_cons_succ]
    refine wpAnyH_take (i:=18) (oi:=⟨_,_,_,_,_,_⟩) (v:=?_) rfl (by kernel_rfl) (by kernel_rfl) (by kernel_rfl) (fun _ _ _ h=>h) (Or.inl ⟨by rfl,?_⟩) (by assumption) ?_
    rotate_left 1
    ·(intro w hSw;(try dsimp only at hSw);go_simp;first | done | with_reducible rfl)
    try simp only [Act.put,List.setIfInBounds_toArray,List.set_cons_zero,List.set_cons_succ]
    refine wpAnyH_take (i:=19) (oi:=⟨_,_,_,_,_,_⟩) (v:=?_) rfl (by kernel_rfl) (by kernel_rfl) (by kernel_rfl) (fun _ _ _ h=>h) (Or.inl ⟨by rfl,?_⟩) (by assumption) ?_
    rotate_left 1
    ·(intro w hSw;(try dsimp only at hSw);go_simp;first | done | with_reducible rfl)
    try simp only [Act.put,List.setIfInBounds_toArray,List.set_cons_zero,List.set_cons_succ]
    refine wpAnyH_ready (rs:=[20]) (by kernel_rfl) (by simp) ?_
    refine (AllReadyH.cons (o:=⟨_,_,_,_,_,_⟩) rfl (fun K hK=>?_) AllReadyH.nil)
    go_simp
    (go_at_call 49;refine (HRe.out _ ((Keep.refl (fun _=>False) wx).drew)).mono ?_;rintro e w5 ⟨⟨vv,rfl,ka,kc,rfl,hle,hlie⟩,q5⟩)
    have K5:=hid (((Keep.refl (fun _=>False) wx).drew).trans q5)
    have N5:=hid (And.intro hle (hlie.mono (ok':=(fun k=>(ok k∨w.heap.size≤k)∧k≠w.heap.size+1)) (fun k hk=>by have z1:=((Keep.refl (fun _=>False) wx).drew).size;have z2:=HZX.out;rcases hk with hk | hk;exact ⟨.inl hk.1,by have:=hk.2;omega⟩;exact ⟨.inr (by omega),by omega⟩)))
    clear hle hlie q5;refine hK.out _ _ ?_ (fun hHeld'=>?_)
    ·exact HSX.out _ (K5.out.mono (fun _ h=>h.elim))
    clear hK K hHeld;have hHeld:=hHeld';clear hHeld'
    try simp only [Act.put,List.setIfInBounds_toArray,List.set_cons_zero,List.set_cons_succ]
    refine wpAnyH_ready (rs:=[21]) (by kernel_rfl) (by simp) ?_
    refine (AllReadyH.cons (o:=⟨_,_,_,_,_,_⟩) rfl (fun K hK=>?_) AllReadyH.nil)
    have A6:=At.new w5 (ncells rp ka kc) 27;have L6:=hid (lie_one (ok:=(fun k=>(ok k∨w.heap.size≤k)∧k≠w.heap.size+1)) A6 ⟨.inr (by have:=K5.out.size;have:=HZX.out;omega),by have:=K5.out.size;have:=HZX.out;omega⟩ N5.out.1 (N5.out.2.keepF ((Keep.refl (fun _=>False) w5).alloc (.cells (ncells rp ka kc) 27))))
    have K6:=hid (K5.out.alloc (.cells (ncells rp ka kc) 27));clear A6;go_simp;refine hK.out _ (w5.alloc (.cells (ncells rp ka kc) 27)) ?_ (fun hHeld'=>?_)
    ·exact HSX.out _ (K6.out.mono (fun _ h=>h.elim))
    clear hK K hHeld;have hHeld:=hHeld';clear hHeld';generalize (w5.alloc (.cells (ncells rp ka kc) 27))=wB at *
    try simp only [Act.put,List.setIfInBounds_toArray,List.set_cons_zero,List.set_cons_succ]
    refine wpAnyH_ready (rs:=[22]) (by kernel_rfl) (by simp) ?_
    refine (AllReadyH.cons (o:=⟨_,_,_,_,_,_⟩) rfl (fun K hK=>?_) AllReadyH.nil)
    have HFo:=hid (HFol.out _ _ K6.out L6.out);go_simp
    (go_at_call 46;refine HFo.out.mono ?_;rintro e w9 ⟨⟨vv,rfl,xa,xc,rfl,hle,hlie⟩,q9⟩)
    have K9:=hid (K6.out.trans q9);have R9:=hid (R6.out.next K9.out);have N9:=hid (And.intro hle (hlie.mono (ok':=(fun k=>(ok k∨w.heap.size≤k)∧k≠w.heap.size+1)) (fun k hk=>by have z1:=K6.out.size;have z2:=HZX.out;rcases hk with hk | hk;exact hk;exact ⟨.inr (by omega),by omega⟩)))
    clear hle hlie q9;refine hK.out _ _ ?_ (fun hHeld'=>?_)
    ·exact HSX.out _ (K9.out.mono (fun _ h=>h.elim))
    clear hK K hHeld;have hHeld:=hHeld';clear hHeld'
    try simp only [Act.put,List.setIfInBounds_toArray,List.set_cons_zero,List.set_cons_succ]
    refine wpAnyH_take (i:=23) (oi:=⟨_,_,_,_,_,_⟩) (v:=?_) rfl (by kernel_rfl) (by kernel_rfl) (by kernel_rfl) (fun _ _ _ h=>h) (Or.inl ⟨by rfl,?_⟩) (by assumption) ?_
    rotate_left 1
    ·(intro w hSw;(try dsimp only at hSw);go_simp;first | done | with_reducible rfl)
    try simp only [Act.put,List.setIfInBounds_toArray,List.set_cons_zero,List.set_cons_succ]
    refine wpAnyH_take (i:=24) (oi:=⟨_,_,_,_,_,_⟩) (v:=?_) rfl (by kernel_rfl) (by kernel_rfl) (by kernel_rfl) (fun _ _ _ h=>h) (Or.inl ⟨by rfl,?_⟩) (by assumption) ?_
    rotate_left 1
    ·(intro w hSw;(try dsimp only at hSw);go_simp;first | done | with_reducible rfl)
    try simp only [Act.put,List.setIfInBounds_toArray,List.set_cons_zero,List.set_cons_succ]
    refine wpAnyH_ready (rs:=[25]) (by kernel_rfl) (by simp) ?_
    refine (AllReadyH.cons (o:=⟨_,_,_,_,_,_⟩) rfl (fun K hK=>?_) AllReadyH.nil)
    obtain ⟨⟨d0,d1,d2,d3,d4,d5,d6,d7⟩,f0,f1,f2,f3,f4,f5,f6,f7⟩:=cells8 R9.out.out;have hlt5:=R9.out.out.lt;have hP:=R9.out.put tt xa xc;have hG:=R9.out.gives (ok:=ok) (t:=tt) N9.out.1 N9.out.2;have HPG:=hid (And.intro hP.1 hG);have HSP:=hid (HSX.out (putNd w9 (w.heap.size+1) 0 tt xa xc) ((K9.out.mono (fun _ h=>h.elim)).trans (putNd_keep w9 (w.heap.size+1) 0 tt xa xc)))
    clear hP hG;go_simp;refine hK.out _ (putNd w9 (w.heap.size+1) 0 tt xa xc) ?_ (fun hHeld'=>?_)
    ·exact HSP.out
    clear hK K hHeld;have hHeld:=hHeld';clear hHeld';generalize (putNd w9 (w.heap.size+1) 0 tt xa xc)=W9 at *
    try simp only [Act.put,List.setIfInBounds_toArray,List.set_cons_zero,List.set_cons_succ]
    refine wpAnyH_take (i:=26) (oi:=⟨_,_,_,_,_,_⟩) (v:=?_) rfl (by kernel_rfl) (by kernel_rfl) (by kernel_rfl) (fun _ _ _ h=>h) (Or.inl ⟨by rfl,?_⟩) (by assumption) ?_
    rotate_left 1
    ·(intro w hSw;(try dsimp only at hSw);go_simp;first | done | with_reducible rfl)
    try simp only [Act.put,List.setIfInBounds_toArray,List.set_cons_zero,List.set_cons_succ]
    refine wpAnyH_done (by kernel_rfl) ?_ _
    refine NoPanic.normal ?_;rotate_left 1;obtain ⟨⟨e0,e1,e2,e3,e4,e5,e6,e7⟩,-⟩:=cells8 HPG.out.1;go_wp2_with fail;exact bodyPost_ret (v:=.tuple #[nodeV tt xa xc,.bool B9]) (by simp [results,Try.results36,go_sem,e0,e1,e2,e3,e4,e5,e6,e7]) rfl ⟨tt,by rw [HB9.out];exact giveB HPG.out.2,fun _=>rfl⟩
   ·have htl:tt=lf:=by
     obtain ⟨d,hd,-⟩:=HX.out.2.2.1.1;rw [← HX.out.2.2.2.2.2.2.1,cat_first_no HLM.out.2];exact (no_is hd HLM.out.2).symm
    have HE:=hid (decide_eq_true (show (cnt tt:Int)≤M by rw [htl];exact HLM.out.1))
    have HTl:=hid htl;clear htl;obtain ⟨⟨d0,d1,d2,d3,d4,d5,d6,d7⟩,f0,f1,f2,f3,f4,f5,f6,f7⟩:=cells8 R6.out.out;have hlt6:=R6.out.out.lt;go_wp2_with fail
    change bodyPost _ _ _ _ _ (putNd wx (w.heap.size+1) 0 lf ja jc)
    have hP:=R6.out.put lf ja jc;have hG:=R6.out.gives (ok:=ok) (t:=lf) HC.out.2.1 HC.out.2.2.1;generalize (putNd wx (w.heap.size+1) 0 lf ja jc)=W8 at hP hG ⊢;obtain ⟨⟨e0,e1,e2,e3,e4,e5,e6,e7⟩,-⟩:=cells8 hP.1;exact bodyPost_ret (v:=.tuple #[nodeV lf ja jc,.bool true]) (by simp [results,Try.results36,go_sem,e0,e1,e2,e3,e4,e5,e6,e7]) rfl ⟨lf,by rw [HE.out];exact giveB hG,fun _=>HTl.out.symm⟩
end P12
namespace P12
open Go.RowKit Base Bytes P07 P08 P09 P10
open Sets (ST)
theorem byT_eqC (b:Nat) (t:T):byT b t=if t.kind=2 then (if t.set.has b=true then epsT else noT) else if t.kind=3 then byC b t.subs else if t.kind=4 then altT (byL b t.subs) else if t.kind=5∧t.mx≠0 then byR b t.mn t.mx t.subs else noT:=by
 cases t
 rw [byT]
 rfl
theorem nd_p {W:World} {bl o:Nat} {t:T} {a:Option Addr} {c:Nat} (h:NodeP W bl o t a c) (i:Nat) (hi:i<4):W.cell? ⟨bl,o+1+i,none⟩=some (.int .u64 (t.set.w i)):=by
 match i,hi with
 | 0,_=>exact h.cs 1 _ rfl
 | 1,_=>exact h.cs 2 _ rfl
 | 2,_=>exact h.cs 3 _ rfl
 | 3,_=>exact h.cs 4 _ rfl
theorem of_step (b:Nat) (hb:b<256) (M:Int) (n:Nat) (ih:∀ t:T,SizeOf.sizeOf t<n→BhOk b M t) (t:T) (hsz:SizeOf.sizeOf t<n+1):BhOk b M t:=by
 intro hRs hReg bl o a c ok w hN hL hc;have hs:=hRs.sub;obtain ⟨d,hR,hS⟩:=id hRs;have hk0:=P10.kinds hR;have hso:=ok_of hR;obtain ⟨tt,htt⟩:∃ tt,byT b t=tt:=⟨_,rfl⟩;rw [htt];rw [byT_eqC] at htt;obtain ⟨B,hB⟩:∃ B,decide ((cnt tt:Int)≤M)=B:=⟨_,rfl⟩;have q0:=((Keep.refl (fun _=>False) w).alloc (.cells #[.int .u8 (b:Int),.int .i64 M] 47)).alloc (.cells nzeros 27)
 have a0:=(At.new w #[.int .u8 (b:Int),.int .i64 M] 47).alloc (.cells nzeros 27);have a2:=At.new (w.alloc (.cells #[.int .u8 (b:Int),.int .i64 M] 47)) nzeros 27;rw [show (w.alloc (.cells #[.int .u8 (b:Int),.int .i64 M] 47)).heap.size=w.heap.size+1 from by simp] at a2
 have hs0:((w.alloc (.cells #[.int .u8 (b:Int),.int .i64 M] 47)).alloc (.cells nzeros 27)).heap.size=w.heap.size+2:=by simp
 have HA:=hid (And.intro a0 (And.intro (hL.under.keepF q0) (And.intro (hN.keepF q0) hN.lt)));have HR:=hid (show Rb w (w.heap.size+1) _ from ⟨a2,q0,by omega⟩)
 have HZ:=hid hs0;have HB:=hid hB;have hih:∀ u ∈ t.subs,BhOk b M u:=fun u hu=>ih u (by obtain ⟨i,hi⟩:=List.mem_iff_getElem?.1 hu;have:=sub_less hi;omega)
 have hct:cntL t.subs≤cnt t:=by rw [cnt_eq t];omega
 have H0:=hid (And.intro hRs (And.intro hReg (And.intro hc (And.intro hih (And.intro hs (And.intro hR (And.intro hS (And.intro hso (hReg.le hct)))))))));clear q0 a0 a2 hL hN hc hs0 hB hih hs hR hS hRs hReg hso hct ih hsz
 by_cases h2:t.kind=2
 ·have k2:(t.kind == 2)=true:=by simpa using h2
  rw [if_pos h2] at htt;obtain ⟨h,hh⟩:∃ h,t.set.has b=h:=⟨_,rfl⟩;rw [hh] at htt;have hx0:=bit_and _ (b % 64) (H0.out.2.2.2.2.2.2.2.1.w (b / 64));have hx:(bits BinOp.and IntKind.u64 ((t.set.w (b / 64):Int) / 2 ^ (b % 64)) 1 == 1)=h:=by rw [hx0,← hh];rfl
  have hc1:=nd_p HA.out.2.2.1 (b / 64) (by omega)
  have HT:=hid htt;clear hx0 htt hh hk0 h2;generalize t.set.w (b / 64)=x at *
  go_enter Try.func19,Try.ntmps19
  go_upto_region 1 with fail;generalize ((w.alloc (.cells #[.int .u8 (b:Int),.int .i64 M] 47)).alloc (.cells nzeros 27))=W0 at *;obtain ⟨n0,n1,n2,n3,n4,n5,n6,n7⟩:=HA.out.2.2.1.eight;have b0:=HA.out.1.cell (o:=0) rfl;have b1:=HA.out.1.cell (o:=1) rfl;go_upto_region 3 with fail
  cases h
  ·have hT2:tt=noT:=by have:=HT.out;rw [if_neg (by decide)] at this;exact this.symm
   subst hT2;have hBt:B=true:=by
    rw [← HB.out,decide_eq_true_eq];have:=H0.out.2.1.pos
    show ((1:Nat):Int)≤M
    omega
   subst hBt
   go_quiet (fail)
   have RQ:=hid (HR.out.next ((Keep.refl (fun _=>False) W0).drewN nq))
   clear b0 b1 n0 n1 n2 n3 n4 n5 n6 n7 hc1;generalize W0.drewN nq=WQ at *;go_wp2_with fail;refine (nothing_any (fun _=>False) WQ).mono ?_
   rintro e w2 ⟨⟨vv,rfl,ka,kc,rfl,hle,hlie⟩,q2⟩;have R2:=hid (RQ.out.next q2);have N2:=hid (And.intro hle (hlie.mono (ok':=fun k=>(ok k∨w.heap.size≤k)∧k≠w.heap.size+1) (fun k hk=>by have z2:=RQ.out.out.lt;rcases hk with hk | hk;exact hk.elim;exact ⟨.inr (by omega),by omega⟩)))
   clear hle hlie q2;obtain ⟨⟨d0,d1,d2,d3,d4,d5,d6,d7⟩,f0,f1,f2,f3,f4,f5,f6,f7⟩:=cells8 R2.out.out;have hlt6:=R2.out.out.lt;go_wp2_with fail
   change bodyPost _ _ _ _ _ (putNd w2 (w.heap.size+1) 0 (noT) ka kc)
   have hP:=R2.out.put (noT) ka kc;have hG:=R2.out.gives (ok:=ok) (t:=noT) N2.out.1 N2.out.2;generalize (putNd w2 (w.heap.size+1) 0 (noT) ka kc)=W8 at hP hG ⊢;obtain ⟨⟨e0,e1,e2,e3,e4,e5,e6,e7⟩,-⟩:=cells8 hP.1;exact bodyPost_ret (v:=.tuple #[nodeV (noT) ka kc,.bool true]) (by simp [results,Try.results19,go_sem,e0,e1,e2,e3,e4,e5,e6,e7]) rfl ⟨noT,by rw [HB.out];exact giveB hG,fun _=>rfl⟩
  ·have hT2:tt=epsT:=by have:=HT.out;rw [if_pos rfl] at this;exact this.symm
   subst hT2;have hBt:B=true:=by
    rw [← HB.out,decide_eq_true_eq];have:=H0.out.2.1.pos
    show ((1:Nat):Int)≤M
    omega
   subst hBt
   go_quiet (fail)
   have RQ:=hid (HR.out.next ((Keep.refl (fun _=>False) W0).drewN nq))
   clear b0 b1 n0 n1 n2 n3 n4 n5 n6 n7 hc1;generalize W0.drewN nq=WQ at *;obtain ⟨⟨d0,d1,d2,d3,d4,d5,d6,d7⟩,f0,f1,f2,f3,f4,f5,f6,f7⟩:=cells8 RQ.out.out;have hlt6:=RQ.out.out.lt;go_wp2_with fail
   change bodyPost _ _ _ _ _ (putNd WQ (w.heap.size+1) 0 (epsT) none 0)
   have hP:=RQ.out.put (epsT) none 0;have hG:=RQ.out.gives (ok:=ok) (t:=epsT) (Nat.le_refl 0) (.nil none);generalize (putNd WQ (w.heap.size+1) 0 (epsT) none 0)=W8 at hP hG ⊢;obtain ⟨⟨e0,e1,e2,e3,e4,e5,e6,e7⟩,-⟩:=cells8 hP.1;exact bodyPost_ret (v:=.tuple #[nodeV (epsT) none 0,.bool true]) (by simp [results,Try.results19,go_sem,e0,e1,e2,e3,e4,e5,e6,e7]) rfl ⟨epsT,by rw [HB.out];exact giveB hG,fun _=>rfl⟩
 have k2:(t.kind == 2)=false:=by simpa using h2
 rw [if_neg h2] at htt;have HSq:=fun (W0:World) (hbx:At W0 w.heap.size 47 #[.int .u8 (b:Int),.int .i64 M]) (hnd:NodeP W0 bl o t a c) (hlt:bl<w.heap.size) (W':World) (q:Keep (fun k=>k=w.heap.size+1) W0 W') =>
  (show (W'.cell? ⟨w.heap.size,0,none⟩=some (.int .u8 (b:Int))∧W'.cell? ⟨w.heap.size,1,none⟩=some (.int .i64 M))∧W'.cell? ⟨bl,o+7,none⟩=some (.slice a t.subs.length c) from by
   have h1:=hbx.keep q (fun h=>by have h:w.heap.size=w.heap.size+1:=h;omega)
   have h2:=(hnd.keep q (fun h=>by have h:bl=w.heap.size+1:=h;omega)).eight
   exact ⟨⟨h1.cell (o:=0) rfl,h1.cell (o:=1) rfl⟩,h2.2.2.2.2.2.2.2⟩)
 have HSQ:=hid HSq;clear HSq
 by_cases h3:t.kind=3
 ·have k3:(t.kind == 3)=true:=by simpa using h3
  rw [if_pos h3] at htt;have hm:=(many_is H0.out.2.2.2.2.2.1 (.inl h3)).2;have HC:=hid (fun W (q:Keep (fun _=>False) ((w.alloc (.cells #[.int .u8 (b:Int),.int .i64 M] 47)).alloc (.cells nzeros 27)) W)=>ofCat_any b M t.subs H0.out.2.2.2.1 H0.out.2.2.2.2.1 (smp_3 H0.out.2.2.2.2.2.2.1 h3) (by intro e;rw [e] at hm;simp at hm) H0.out.2.2.2.2.2.2.2.2 a c (fun k=>ok k∧k<w.heap.size) W (HA.out.2.1.keepF q) H0.out.2.2.1)
  unfold Ofd at HC;rw [htt,HB.out] at HC;clear htt hk0 hm h2 h3
  go_enter Try.func19,Try.ntmps19
  go_upto_region 1 with fail;generalize ((w.alloc (.cells #[.int .u8 (b:Int),.int .i64 M] 47)).alloc (.cells nzeros 27))=W0 at *;obtain ⟨n0,n1,n2,n3,n4,n5,n6,n7⟩:=HA.out.2.2.1.eight;have b0:=HA.out.1.cell (o:=0) rfl;have b1:=HA.out.1.cell (o:=1) rfl;have HSX:=hid (HSQ.out W0 HA.out.1 HA.out.2.2.1 HA.out.2.2.2);go_upto_region 6 with fail;refine wp_region_noPanic ?_;refine wp_region_held_drew (S:=(fun W=>(W.cell? ⟨w.heap.size,0,none⟩=some (.int .u8 b)∧W.cell? ⟨w.heap.size,1,none⟩=some (.int .i64 M))∧W.cell? ⟨bl,o+7,none⟩=some (.slice a t.subs.length c))) (by kernel_rfl) ?_ (fun hHeld=>?_)
  ·exact HSX.out _ ((Keep.refl (fun b=>b=w.heap.size+1) W0).drew)
  refine wpAnyH_take (i:=0) (oi:=⟨_,_,_,_,_,_⟩) (v:=?_) rfl (by kernel_rfl) (by kernel_rfl) (by kernel_rfl) (fun _ _ _ h=>h) (Or.inl ⟨by rfl,?_⟩) (by assumption) ?_
  rotate_left 1
  ·(intro w hSw;(try dsimp only at hSw);go_simp;first | done | with_reducible rfl)
  try simp only [Act.put,List.setIfInBounds_toArray,List.set_cons_zero,List.set_cons_succ]
  refine wpAnyH_take (i:=1) (oi:=⟨_,_,_,_,_,_⟩) (v:=?_) rfl (by kernel_rfl) (by kernel_rfl) (by kernel_rfl) (fun _ _ _ h=>h) (Or.inl ⟨by rfl,?_⟩) (by assumption) ?_
  rotate_left 1
  ·(intro w hSw;(try dsimp only at hSw);go_simp;first | done | with_reducible rfl)
  try simp only [Act.put,List.setIfInBounds_toArray,List.set_cons_zero,List.set_cons_succ]
  refine wpAnyH_take (i:=2) (oi:=⟨_,_,_,_,_,_⟩) (v:=?_) rfl (by kernel_rfl) (by kernel_rfl) (by kernel_rfl) (fun _ _ _ h=>h) (Or.inl ⟨by rfl,?_⟩) (by assumption) ?_
  rotate_left 1
  ·(intro w hSw;(try dsimp only at hSw);go_simp;first | done | with_reducible rfl)
  try simp only [Act.put,List.setIfInBounds_toArray,List.set_cons_zero,List.set_cons_succ]
  refine wpAnyH_take (i:=3) (oi:=⟨_,_,_,_,_,_⟩) (v:=?_) rfl (by kernel_rfl) (by kernel_rfl) (by kernel_rfl) (fun _ _ _ h=>h) (Or.inl ⟨by rfl,?_⟩) (by assumption) ?_
  rotate_left 1
  ·(intro w hSw;(try dsimp only at hSw);go_simp;first | done | with_reducible rfl)
  try simp only [Act.put,List.setIfInBounds_toArray,List.set_cons_zero,List.set_cons_succ]
  refine wpAnyH_take (i:=4) (oi:=⟨_,_,_,_,_,_⟩) (v:=?_) rfl (by kernel_rfl) (by kernel_rfl) (by kernel_rfl) (fun _ _ _ h=>h) (Or.inl ⟨by rfl,?_⟩) (by assumption) ?_
  rotate_left 1
  ·(intro w hSw;(try dsimp only at hSw);go_simp;first | done | with_reducible rfl)
  try simp only [Act.put,List.setIfInBounds_toArray,List.set_cons_zero,List.set_cons_succ]
  refine wpAnyH_ready (rs:=[5]) (by kernel_rfl) (by simp) ?_
  refine (AllReadyH.cons (o:=⟨_,_,_,_,_,_⟩) rfl (fun K hK=>?_) AllReadyH.nil)
  go_simp
  (go_at_call 34;refine (HC.out _ ((Keep.refl (fun _=>False) W0).drew)).mono ?_;rintro e w2 ⟨z,⟨⟨vv,rfl,ka,kc,rfl,hle,hlie⟩,q2⟩,hz⟩)
  have K2:=hid (((Keep.refl (fun _=>False) W0).drew).trans q2)
  have R2:=hid (HR.out.next K2.out);have N2:=hid (And.intro hle (hlie.mono (ok':=fun k=>(ok k∨w.heap.size≤k)∧k≠w.heap.size+1) (fun k hk=>by have z1:=((Keep.refl (fun _=>False) W0).drew).size;have z2:=HZ.out;rcases hk with hk | hk;exact ⟨.inl hk.1,by have:=hk.2;omega⟩;exact ⟨.inr (by omega),by omega⟩)))
  have HZz:=hid hz;clear hle hlie q2 hz;refine hK.out _ _ ?_ (fun hHeld'=>?_)
  ·exact HSX.out _ (K2.out.mono (fun _ h=>h.elim))
  clear hK K hHeld;have hHeld:=hHeld';clear hHeld'
  try simp only [Act.put,List.setIfInBounds_toArray,List.set_cons_zero,List.set_cons_succ]
  refine wpAnyH_take (i:=6) (oi:=⟨_,_,_,_,_,_⟩) (v:=?_) rfl (by kernel_rfl) (by kernel_rfl) (by kernel_rfl) (fun _ _ _ h=>h) (Or.inl ⟨by rfl,?_⟩) (by assumption) ?_
  rotate_left 1
  ·(intro w hSw;(try dsimp only at hSw);go_simp;first | done | with_reducible rfl)
  try simp only [Act.put,List.setIfInBounds_toArray,List.set_cons_zero,List.set_cons_succ]
  refine wpAnyH_take (i:=7) (oi:=⟨_,_,_,_,_,_⟩) (v:=?_) rfl (by kernel_rfl) (by kernel_rfl) (by kernel_rfl) (fun _ _ _ h=>h) (Or.inl ⟨by rfl,?_⟩) (by assumption) ?_
  rotate_left 1
  ·(intro w hSw;(try dsimp only at hSw);go_simp;first | done | with_reducible rfl)
  try simp only [Act.put,List.setIfInBounds_toArray,List.set_cons_zero,List.set_cons_succ]
  refine wpAnyH_ready (rs:=[8]) (by kernel_rfl) (by simp) ?_
  refine (AllReadyH.cons (o:=⟨_,_,_,_,_,_⟩) rfl (fun K hK=>?_) AllReadyH.nil)
  obtain ⟨⟨d0,d1,d2,d3,d4,d5,d6,d7⟩,f0,f1,f2,f3,f4,f5,f6,f7⟩:=cells8 R2.out.out;have hlt5:=R2.out.out.lt;have hP:=R2.out.put z ka kc;have hG:=R2.out.gives (ok:=ok) (t:=z) N2.out.1 N2.out.2;have HPG:=hid (And.intro hP.1 hG);have HSP:=hid (HSX.out (putNd w2 (w.heap.size+1) 0 z ka kc) ((K2.out.mono (fun _ h=>h.elim)).trans (putNd_keep w2 (w.heap.size+1) 0 z ka kc)))
  clear hP hG;go_simp;refine hK.out _ (putNd w2 (w.heap.size+1) 0 z ka kc) ?_ (fun hHeld'=>?_)
  ·exact HSP.out
  clear hK K hHeld;have hHeld:=hHeld';clear hHeld';generalize (putNd w2 (w.heap.size+1) 0 z ka kc)=W9 at *
  try simp only [Act.put,List.setIfInBounds_toArray,List.set_cons_zero,List.set_cons_succ]
  refine wpAnyH_take (i:=9) (oi:=⟨_,_,_,_,_,_⟩) (v:=?_) rfl (by kernel_rfl) (by kernel_rfl) (by kernel_rfl) (fun _ _ _ h=>h) (Or.inl ⟨by rfl,?_⟩) (by assumption) ?_
  rotate_left 1
  ·(intro w hSw;(try dsimp only at hSw);go_simp;first | done | with_reducible rfl)
  try simp only [Act.put,List.setIfInBounds_toArray,List.set_cons_zero,List.set_cons_succ]
  refine wpAnyH_done (by kernel_rfl) ?_ _
  refine NoPanic.normal ?_;rotate_left 1;obtain ⟨⟨e0,e1,e2,e3,e4,e5,e6,e7⟩,-⟩:=cells8 HPG.out.1;go_wp2_with fail;exact bodyPost_ret (v:=.tuple #[nodeV z ka kc,.bool B]) (by simp [results,Try.results19,go_sem,e0,e1,e2,e3,e4,e5,e6,e7]) rfl ⟨z,by rw [HB.out];exact giveB HPG.out.2,HZz.out⟩
 have k3:(t.kind == 3)=false:=by simpa using h3
 rw [if_neg h3] at htt
 by_cases h4:t.kind=4
 ·have k4:(t.kind == 4)=true:=by simpa using h4
  rw [if_pos h4] at htt;have HC:=hid (fun W (q:Keep (fun _=>False) ((w.alloc (.cells #[.int .u8 (b:Int),.int .i64 M] 47)).alloc (.cells nzeros 27)) W)=>ofAlt_any b M t.subs H0.out.2.2.2.1 H0.out.2.2.2.2.1 H0.out.2.2.2.2.2.2.2.2 a c (fun k=>ok k∧k<w.heap.size) W (HA.out.2.1.keepF q) H0.out.2.2.1)
  unfold Ofd at HC;rw [htt,HB.out] at HC;clear htt hk0 h2 h3 h4
  go_enter Try.func19,Try.ntmps19
  go_upto_region 1 with fail;generalize ((w.alloc (.cells #[.int .u8 (b:Int),.int .i64 M] 47)).alloc (.cells nzeros 27))=W0 at *;obtain ⟨n0,n1,n2,n3,n4,n5,n6,n7⟩:=HA.out.2.2.1.eight;have b0:=HA.out.1.cell (o:=0) rfl;have b1:=HA.out.1.cell (o:=1) rfl;have HSX:=hid (HSQ.out W0 HA.out.1 HA.out.2.2.1 HA.out.2.2.2);go_upto_region 8 with fail;refine wp_region_noPanic ?_;refine wp_region_held_drew (S:=(fun W=>(W.cell? ⟨w.heap.size,0,none⟩=some (.int .u8 b)∧W.cell? ⟨w.heap.size,1,none⟩=some (.int .i64 M))∧W.cell? ⟨bl,o+7,none⟩=some (.slice a t.subs.length c))) (by kernel_rfl) ?_ (fun hHeld=>?_)
  ·exact HSX.out _ ((Keep.refl (fun b=>b=w.heap.size+1) W0).drew)
  refine wpAnyH_take (i:=0) (oi:=⟨_,_,_,_,_,_⟩) (v:=?_) rfl (by kernel_rfl) (by kernel_rfl) (by kernel_rfl) (fun _ _ _ h=>h) (Or.inl ⟨by rfl,?_⟩) (by assumption) ?_
  rotate_left 1
  ·(intro w hSw;(try dsimp only at hSw);go_simp;first | done | with_reducible rfl)
  try simp only [Act.put,List.setIfInBounds_toArray,List.set_cons_zero,List.set_cons_succ]
  refine wpAnyH_take (i:=1) (oi:=⟨_,_,_,_,_,_⟩) (v:=?_) rfl (by kernel_rfl) (by kernel_rfl) (by kernel_rfl) (fun _ _ _ h=>h) (Or.inl ⟨by rfl,?_⟩) (by assumption) ?_
  rotate_left 1
  ·(intro w hSw;(try dsimp only at hSw);go_simp;first | done | with_reducible rfl)
  try simp only [Act.put,List.setIfInBounds_toArray,List.set_cons_zero,List.set_cons_succ]
  refine wpAnyH_take (i:=2) (oi:=⟨_,_,_,_,_,_⟩) (v:=?_) rfl (by kernel_rfl) (by kernel_rfl) (by kernel_rfl) (fun _ _ _ h=>h) (Or.inl ⟨by rfl,?_⟩) (by assumption) ?_
  rotate_left 1
  ·(intro w hSw;(try dsimp only at hSw);go_simp;first | done | with_reducible rfl)
  try simp only [Act.put,List.setIfInBounds_toArray,List.set_cons_zero,List.set_cons_succ]
  refine wpAnyH_take (i:=3) (oi:=⟨_,_,_,_,_,_⟩) (v:=?_) rfl (by kernel_rfl) (by kernel_rfl) (by kernel_rfl) (fun _ _ _ h=>h) (Or.inl ⟨by rfl,?_⟩) (by assumption) ?_
  rotate_left 1
  ·(intro w hSw;(try dsimp only at hSw);go_simp;first | done | with_reducible rfl)
  try simp only [Act.put,List.setIfInBounds_toArray,List.set_cons_zero,List.set_cons_succ]
  refine wpAnyH_take (i:=4) (oi:=⟨_,_,_,_,_,_⟩) (v:=?_) rfl (by kernel_rfl) (by kernel_rfl) (by kernel_rfl) (fun _ _ _ h=>h) (Or.inl ⟨by rfl,?_⟩) (by assumption) ?_
  rotate_left 1
  ·(intro w hSw;(try dsimp only at hSw);go_simp;first | done | with_reducible rfl)
  try simp only [Act.put,List.setIfInBounds_toArray,List.set_cons_zero,List.set_cons_succ]
  refine wpAnyH_ready (rs:=[5]) (by kernel_rfl) (by simp) ?_
  refine (AllReadyH.cons (o:=⟨_,_,_,_,_,_⟩) rfl (fun K hK=>?_) AllReadyH.nil)
  go_simp
  (go_at_call 35;refine (HC.out _ ((Keep.refl (fun _=>False) W0).drew)).mono ?_;rintro e w2 ⟨z,⟨⟨vv,rfl,ka,kc,rfl,hle,hlie⟩,q2⟩,hz⟩)
  have K2:=hid (((Keep.refl (fun _=>False) W0).drew).trans q2)
  have R2:=hid (HR.out.next K2.out);have N2:=hid (And.intro hle (hlie.mono (ok':=fun k=>(ok k∨w.heap.size≤k)∧k≠w.heap.size+1) (fun k hk=>by have z1:=((Keep.refl (fun _=>False) W0).drew).size;have z2:=HZ.out;rcases hk with hk | hk;exact ⟨.inl hk.1,by have:=hk.2;omega⟩;exact ⟨.inr (by omega),by omega⟩)))
  have HZz:=hid hz;clear hle hlie q2 hz;refine hK.out _ _ ?_ (fun hHeld'=>?_)
  ·exact HSX.out _ (K2.out.mono (fun _ h=>h.elim))
  clear hK K hHeld;have hHeld:=hHeld';clear hHeld'
  try simp only [Act.put,List.setIfInBounds_toArray,List.set_cons_zero,List.set_cons_succ]
  refine wpAnyH_take (i:=6) (oi:=⟨_,_,_,_,_,_⟩) (v:=?_) rfl (by kernel_rfl) (by kernel_rfl) (by kernel_rfl) (fun _ _ _ h=>h) (Or.inl ⟨by rfl,?_⟩) (by assumption) ?_
  rotate_left 1
  ·(intro w hSw;(try dsimp only at hSw);go_simp;first | done | with_reducible rfl)
  try simp only [Act.put,List.setIfInBounds_toArray,List.set_cons_zero,List.set_cons_succ]
  refine wpAnyH_take (i:=7) (oi:=⟨_,_,_,_,_,_⟩) (v:=?_) rfl (by kernel_rfl) (by kernel_rfl) (by kernel_rfl) (fun _ _ _ h=>h) (Or.inl ⟨by rfl,?_⟩) (by assumption) ?_
  rotate_left 1
  ·(intro w hSw;(try dsimp only at hSw);go_simp;first | done | with_reducible rfl)
  try simp only [Act.put,List.setIfInBounds_toArray,List.set_cons_zero,List.set_cons_succ]
  refine wpAnyH_ready (rs:=[8]) (by kernel_rfl) (by simp) ?_
  refine (AllReadyH.cons (o:=⟨_,_,_,_,_,_⟩) rfl (fun K hK=>?_) AllReadyH.nil)
  obtain ⟨⟨d0,d1,d2,d3,d4,d5,d6,d7⟩,f0,f1,f2,f3,f4,f5,f6,f7⟩:=cells8 R2.out.out;have hlt5:=R2.out.out.lt;have hP:=R2.out.put z ka kc;have hG:=R2.out.gives (ok:=ok) (t:=z) N2.out.1 N2.out.2;have HPG:=hid (And.intro hP.1 hG);have HSP:=hid (HSX.out (putNd w2 (w.heap.size+1) 0 z ka kc) ((K2.out.mono (fun _ h=>h.elim)).trans (putNd_keep w2 (w.heap.size+1) 0 z ka kc)))
  clear hP hG;go_simp;refine hK.out _ (putNd w2 (w.heap.size+1) 0 z ka kc) ?_ (fun hHeld'=>?_)
  ·exact HSP.out
  clear hK K hHeld;have hHeld:=hHeld';clear hHeld';generalize (putNd w2 (w.heap.size+1) 0 z ka kc)=W9 at *
  try simp only [Act.put,List.setIfInBounds_toArray,List.set_cons_zero,List.set_cons_succ]
  refine wpAnyH_take (i:=9) (oi:=⟨_,_,_,_,_,_⟩) (v:=?_) rfl (by kernel_rfl) (by kernel_rfl) (by kernel_rfl) (fun _ _ _ h=>h) (Or.inl ⟨by rfl,?_⟩) (by assumption) ?_
  rotate_left 1
  ·(intro w hSw;(try dsimp only at hSw);go_simp;first | done | with_reducible rfl)
  try simp only [Act.put,List.setIfInBounds_toArray,List.set_cons_zero,List.set_cons_succ]
  refine wpAnyH_done (by kernel_rfl) ?_ _
  refine NoPanic.normal ?_;rotate_left 1;obtain ⟨⟨e0,e1,e2,e3,e4,e5,e6,e7⟩,-⟩:=cells8 HPG.out.1;go_wp2_with fail;exact bodyPost_ret (v:=.tuple #[nodeV z ka kc,.bool B]) (by simp [results,Try.results19,go_sem,e0,e1,e2,e3,e4,e5,e6,e7]) rfl ⟨z,by rw [HB.out];exact giveB HPG.out.2,HZz.out⟩
 have k4:(t.kind == 4)=false:=by simpa using h4
 rw [if_neg h4] at htt
 by_cases h5:t.kind=5
 ·have k5:(t.kind == 5)=true:=by simpa using h5
  obtain ⟨u,mn,mx,et,-⟩:=rep_is H0.out.2.2.2.2.2.1 h5;have hmx:t.mx≠0:=by
   have:=H0.out.2.2.2.2.2.2.1;rw [et,smp_nd] at this;rw [et];exact (this.2.2.2 rfl).1
  have hsub:t.subs=[u]:=by rw [et];rfl
  rw [if_pos ⟨h5,hmx⟩] at htt;have HC:=hid (ofRep_any b M t u h5 hsub H0.out.1 H0.out.2.1 (H0.out.2.2.2.1 u (by rw [hsub];simp)) bl o a c (fun k=>ok k∧k<w.heap.size) _ HA.out.2.2.1 HA.out.2.1 H0.out.2.2.1)
  unfold Ofd at HC;rw [htt,HB.out] at HC;clear htt hk0 h2 h3 h4 h5 et hmx hsub
  go_enter Try.func19,Try.ntmps19
  go_upto_region 1 with fail;generalize ((w.alloc (.cells #[.int .u8 (b:Int),.int .i64 M] 47)).alloc (.cells nzeros 27))=W0 at *;obtain ⟨n0,n1,n2,n3,n4,n5,n6,n7⟩:=HA.out.2.2.1.eight;have b0:=HA.out.1.cell (o:=0) rfl;have b1:=HA.out.1.cell (o:=1) rfl;go_wp2_with fail;refine HC.out.mono ?_;rintro e w2 ⟨z,⟨⟨vv,rfl,ka,kc,rfl,hle,hlie⟩,q2⟩,hz⟩;have R2:=hid (HR.out.next q2);have N2:=hid (And.intro hle (hlie.mono (ok':=fun k=>(ok k∨w.heap.size≤k)∧k≠w.heap.size+1) (fun k hk=>by have z2:=HZ.out;rcases hk with hk | hk;exact ⟨.inl hk.1,by have:=hk.2;omega⟩;exact ⟨.inr (by omega),by omega⟩)))
  have HZz:=hid hz;clear hle hlie q2 hz b0 b1 n0 n1 n2 n3 n4 n5 n6 n7;obtain ⟨⟨d0,d1,d2,d3,d4,d5,d6,d7⟩,f0,f1,f2,f3,f4,f5,f6,f7⟩:=cells8 R2.out.out;have hlt6:=R2.out.out.lt;go_wp2_with fail
  change bodyPost _ _ _ _ _ (putNd w2 (w.heap.size+1) 0 (z) ka kc)
  have hP:=R2.out.put (z) ka kc;have hG:=R2.out.gives (ok:=ok) (t:=z) N2.out.1 N2.out.2;generalize (putNd w2 (w.heap.size+1) 0 (z) ka kc)=W8 at hP hG ⊢;obtain ⟨⟨e0,e1,e2,e3,e4,e5,e6,e7⟩,-⟩:=cells8 hP.1;exact bodyPost_ret (v:=.tuple #[nodeV (z) ka kc,.bool B]) (by simp [results,Try.results19,go_sem,e0,e1,e2,e3,e4,e5,e6,e7]) rfl ⟨z,by rw [HB.out];exact giveB hG,HZz.out⟩
 have k5:(t.kind == 5)=false:=by simpa using h5
 rw [if_neg (fun h=>h5 h.1)] at htt
 have hT2:tt=noT:=htt.symm;subst hT2;have hBt:B=true:=by
  rw [← HB.out,decide_eq_true_eq];have:=H0.out.2.1.pos
  show ((1:Nat):Int)≤M
  omega
 subst hBt;clear htt hk0 h2 h3 h4 h5
 go_enter Try.func19,Try.ntmps19
 go_upto_region 1 with fail;generalize ((w.alloc (.cells #[.int .u8 (b:Int),.int .i64 M] 47)).alloc (.cells nzeros 27))=W0 at *;obtain ⟨n0,n1,n2,n3,n4,n5,n6,n7⟩:=HA.out.2.2.1.eight;have b0:=HA.out.1.cell (o:=0) rfl;have b1:=HA.out.1.cell (o:=1) rfl;go_wp2_with fail;refine (nothing_any (fun _=>False) W0).mono ?_
 rintro e w2 ⟨⟨vv,rfl,ka,kc,rfl,hle,hlie⟩,q2⟩;have R2:=hid (HR.out.next q2);have N2:=hid (And.intro hle (hlie.mono (ok':=fun k=>(ok k∨w.heap.size≤k)∧k≠w.heap.size+1) (fun k hk=>by have z2:=HZ.out;rcases hk with hk | hk;exact hk.elim;exact ⟨.inr (by omega),by omega⟩)))
 clear hle hlie q2 b0 b1 n0 n1 n2 n3 n4 n5 n6 n7;obtain ⟨⟨d0,d1,d2,d3,d4,d5,d6,d7⟩,f0,f1,f2,f3,f4,f5,f6,f7⟩:=cells8 R2.out.out;have hlt6:=R2.out.out.lt;go_wp2_with fail
 change bodyPost _ _ _ _ _ (putNd w2 (w.heap.size+1) 0 (noT) ka kc)
 have hP:=R2.out.put (noT) ka kc;have hG:=R2.out.gives (ok:=ok) (t:=noT) N2.out.1 N2.out.2;generalize (putNd w2 (w.heap.size+1) 0 (noT) ka kc)=W8 at hP hG ⊢;obtain ⟨⟨e0,e1,e2,e3,e4,e5,e6,e7⟩,-⟩:=cells8 hP.1;exact bodyPost_ret (v:=.tuple #[nodeV (noT) ka kc,.bool true]) (by simp [results,Try.results19,go_sem,e0,e1,e2,e3,e4,e5,e6,e7]) rfl ⟨noT,by rw [HB.out];exact giveB hG,fun _=>rfl⟩
theorem bh_all (b:Nat) (hb:b<256) (M:Int):∀ (n:Nat) (t:T),SizeOf.sizeOf t<n→BhOk b M t
 | 0,_,h=>absurd h (Nat.not_lt_zero _)
 | n+1,t,h=>of_step b hb M n (bh_all b hb M n) t h
theorem bh_any (b:Nat) (hb:b<256) (M:Int) (t:T):BhOk b M t:=bh_all b hb M _ t (Nat.lt_succ_self _)
end P12
end Go.Proofs.Ytlmfbchgkjgljaa

/- The code's bytesOf, then, or, repeated, length (layer 9). -/
import Derived.Test.YtlmfbchgkjgljaaGreatKY23
import Derived.Test.YtlmfbchgkjgljaaGreatKY24
import Derived.Test.YtlmfbchgkjgljaaGreatKY25
import Derived.Test.YtlmfbchgkjgljaaGreatKY03
import Derived.Test.YtlmfbchgkjgljaaGreatKY11
import Derived.Test.YtlmfbchgkjgljaaGreatKY26
import Derived.Test.YtlmfbchgkjgljaaGreatKY16
import Derived.Test.YtlmfbchgkjgljaaGreatKY15
import Derived.Test.YtlmfbchgkjgljaaGreatKY22
import Derived.Lib.AppendZeros
import Derived.Maps.AppendAt
set_option maxRecDepth 100000
set_option maxHeartbeats 32000000
open Go.Lib (hid)
namespace Go.Proofs.YtlmfbchgkjgljaaGreat
namespace P09
open Go.RowKit Base Bytes P07 P08
open Sets (ST)
@[reducible] def xcells (x:TX):Array Value:=#[.bool x.none,.bool x.endless,.int .u64 x.first.x0,.int .u64 x.first.x1,.int .u64 x.first.x2,.int .u64 x.first.x3,.int .i64 x.least,.int .i64 x.most]
@[reducible] def xV (x:TX):Value:=.agg (xcells x)
@[reducible] def xzeros:Array Value:=#[.bool false,.bool false,.int .u64 0,.int .u64 0,.int .u64 0,.int .u64 0,.int .i64 0,.int .i64 0]
def TX.len (x:TX):Int × Int:=if x.none=true then (-1,-1) else if x.endless=true then (x.least,-1) else (x.least,x.most)
end P09
namespace P09
open Go.RowKit Base Bytes P07 P08 IL
open Sets (ST)
theorem fnull_any (t:T) (d:Nat) (hR:RT d t) (a:Option Addr) (c:Nat) (w:World) (hL:Lie w (fun _=>True) a t.subs):Calls Tryz.prog 20 #[nodeV t a c] w fun e w'=>e=.returned (.bool (nullB t))∧Keep (fun _=>False) w w':=by
 have q:=(Keep.refl (fun _=>False) w).alloc (.cells (ncells t a c) 27)
 have hl:=lens_length 0 t;obtain ⟨x,hx⟩:∃ x,lens 0 t=[x]:=by
  match lens 0 t,hl with
  | [x],_=>exact ⟨x,rfl⟩
 have hv:nullB t=x:=by unfold nullB;rw [hx];rfl
 have H0:=hid (And.intro (Bx.new (c:=c) hL) (And.intro q (And.intro hR hx)));rw [hv];clear hL q hR hl hx hv
 go_enter Tryz.func20,Tryz.ntmps20
 go_upto_region 1 with fail;generalize (w.alloc (.cells (ncells t a c) 27))=W at *;obtain ⟨c0,c1,c2,c3,c4,c5,c6,c7⟩:=H0.out.1.eight;have hcall:=flens_all _ t (Nat.lt_succ_self _) d H0.out.2.2.1 0 (by decide) a c W H0.out.1.lie
 have HC:=hid hcall;clear hcall;go_wp2_with fail;refine HC.out.mono ?_;rintro e w1 ⟨g,rfl,hg,hat,q1⟩;rw [H0.out.2.2.2] at hat;have k0:=hat.cell (o:=0) (v:=.bool x) rfl;have Q1:=hid (H0.out.2.1.trans q1);clear hat q1 c0 c1 c2 c3 c4 c5 c6 c7;go_wp2_with fail;go_ret;exact ⟨rfl,Q1.out⟩
def lstN (p:Nat→Bool):Nat→List Nat
 | 0=>[]
 | k+1=>if p k then lstN p k++[k] else lstN p k
theorem lstN_ints (p:Nat→Bool):∀ k,Bytes.lst p k=ints (lstN p k)
 | 0=>rfl
 | k+1=>by
  rw [Bytes.lst,lstN]
  split
  ·rw [lstN_ints p k]
   unfold ints;rw [List.map_append]
   rfl
  ·exact lstN_ints p k
theorem lstN_mem (p:Nat→Bool):∀ k (x:Nat),x ∈ lstN p k↔x<k∧p x=true
 | 0,x=>by simp [lstN]
 | k+1,x=>by
  rw [lstN]
  split
  ·rename_i h
   rw [List.mem_append,lstN_mem p k]
   simp only [List.mem_singleton]
   constructor
   ·rintro (⟨h1,h2⟩ | h1)
    ·exact ⟨by omega,h2⟩
    ·subst h1
     exact ⟨by omega,h⟩
   ·rintro ⟨h1,h2⟩
    rcases Nat.lt_or_ge x k with h3 | h3
    ·exact .inl ⟨h3,h2⟩
    ·exact .inr (by omega)
  ·rename_i h
   rw [lstN_mem p k]
   constructor
   ·rintro ⟨h1,h2⟩
    exact ⟨by omega,h2⟩
   ·rintro ⟨h1,h2⟩
    refine ⟨?_,h2⟩
    rcases Nat.lt_or_ge x k with h3 | h3
    ·exact h3
    ·have:x=k:=by omega
     subst this;exact absurd h2 h
theorem lstN_length (p:Nat→Bool):∀ k,(lstN p k).length≤k
 | 0=>by simp [lstN]
 | k+1=>by
  have:=lstN_length p k;rw [lstN]
  split
  ·rw [List.length_append,List.length_singleton]
   omega
  ·omega
theorem mk_lstN {s:ST} (hs:s.Ok):mkS (lstN s.has 256)=s:=by
 refine ST.ext (mk_ok _ _ rfl) hs (fun b hb=>?_)
 rw [mk_has b hb _ _ rfl,Bool.eq_iff_iff,decide_eq_true_iff,lstN_mem];exact ⟨fun h=>h.2,fun h=>⟨hb,h⟩⟩
structure Fb (b w:World) (v:Value) (S:ST) (n:Nat):Prop where
 q:Keep (fun _=>False) b w
 far:∀ g,v.ownBlock=some g→b.heap.size≤g
 il:∃ L:List Nat,IL w v (ints L)∧(∀ x ∈ L,x<256)∧L.length≤256 * n∧mkS L=S
theorem Fb.keep {b w w':World} {v:Value} {S:ST} {n:Nat} (h:Fb b w v S n) (k:Keep (fun _=>False) w w'):Fb b w' v S n:=by
 obtain ⟨L,h1,h2⟩:=h.il;exact ⟨h.q.trans k,h.far,L,h1.keep k (fun _ _ h=>h),h2⟩
theorem Fb.nil (b:World):Fb b b (.slice none 0 0) .none 0:=⟨Keep.refl _ _,fun g hg=>(by cases hg),[],IL.nil b,by simp,by simp,rfl⟩
theorem Fb.append {b w:World} {v:Value} {S:ST} {n:Nat} (h:Fb b w v S n) {s:ST} (hs:s.Ok) (hn:n≤8190) {v2:Value} (hi:IL w v2 (Bytes.lst s.has 256)) (ty:TypeId) :
  ∃ v' w',(Builtin.append_ #[70,70] ty #[v,v2]).run Tryz.prog w=.ok v' w'∧Fb b w' v' (S.or s) (n+1):=by
 obtain ⟨L,h1,h2,h3,h4⟩:=h.il;obtain ⟨a2,cap2,rfl,hc⟩:=hi.form;have hlN:=lstN_length s.has 256;have hlen:(Bytes.lst s.has 256).length=(lstN s.has 256).length:=by rw [lstN_ints];unfold ints;rw [List.length_map]
 obtain ⟨v',w',hrun,g1,g2,g3⟩:=h1.append (Bytes.lst s.has 256) a2 cap2 (fun j x hx=>by
  obtain ⟨g,-,e,hcell⟩:=hc j x hx;refine ⟨⟨g,0,none⟩,e,?_⟩
  rw [show (⟨g,0,none⟩:Addr).add j=⟨g,j,none⟩ from by
   unfold Addr.add
   split
   ·rename_i hz
    rw [hz]
   ·simp]
  exact hcell) (by unfold ints;rw [List.length_map,hlen];omega) ty
 refine ⟨v',w',hrun,h.q.next g2 (fun i hh hi=>by have:=h.far i hh;omega),fun g hg=>?_,L++lstN s.has 256,?_,?_,?_,?_⟩
 ·rcases g3 g hg with h5 | h5
  ·exact h.far g h5
  ·exact Nat.le_trans h.q.size h5
 ·rw [lstN_ints] at g1
  unfold ints at g1 ⊢;rw [List.map_append];exact g1
 ·intro x hx
  rcases List.mem_append.1 hx with h5 | h5
  ·exact h2 x h5
  ·exact ((lstN_mem _ _ _).1 h5).1
 ·rw [List.length_append]
  omega
 ·rw [mk_append,h4,mk_lstN hs]
theorem Fb.set {b w:World} {v:Value} {S:ST} {n:Nat} (h:Fb b w v S n) (hn:n≤8190):Calls Tryz.prog 41 #[v] w fun e w'=>e=.returned (val S)∧Keep (fun _=>False) w w':=by
 obtain ⟨L,h1,h2,h3,h4⟩:=h.il;rw [← h4];exact set_is L h2 (by omega) v w h1
end P09
end Go.Proofs.YtlmfbchgkjgljaaGreat

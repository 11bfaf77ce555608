/- What is left behind a byte (layer 12), plain: what a Cat's is put together of; how long the rows are. -/
import Derived.Test.YtlmfbchgkjgljaaGreatKY29
import Derived.Test.YtlmfbchgkjgljaaGreatKY20
import Derived.Test.YtlmfbchgkjgljaaGreatKY28
import Derived.Test.YtlmfbchgkjgljaaGreatKY24
set_option maxRecDepth 100000
set_option maxHeartbeats 32000000
open Go.Lib (hid)
namespace Go.Proofs.YtlmfbchgkjgljaaGreat
namespace P12
open P07 P08 P09 P10
open Sets (ST)
def pC (b:Nat):List T→List T
 | []=>[]
 | t::l=>catT (byT b t::l)::(if nullB t=true then pC b l else [])
theorem first_rs (b:Nat) {t:T} {l:List T} (ht:Rs t) (hl:∀ u ∈ l,Rs u):Rs (catT (byT b t::l)):=rs_cat fun u hu=>by
 rcases List.mem_cons.1 hu with rfl | hu
 ·exact (by_rs b t ht).1
 ·exact hl u hu
theorem pC_rs (b:Nat):∀ l:List T,(∀ t ∈ l,Rs t)→∀ x ∈ pC b l,Rs x
 | [],_,x,hx=>by rw [pC] at hx;cases hx
 | t::l,h,x,hx=>by
  have hl:∀ u ∈ l,Rs u:=fun u hu=>h u (List.mem_cons_of_mem _ hu)
  rw [pC] at hx
  rcases List.mem_cons.1 hx with rfl | hx
  ·exact first_rs b (h t (by simp)) hl
  ·split at hx
   ·exact pC_rs b l hl x hx
   ·cases hx
theorem byC_pC (b:Nat):∀ l:List T,(∀ t ∈ l,Rs t)→l≠[]→byC b l=altT (pC b l)
 | [],_,h=>absurd rfl h
 | [t],h,_=>by
  have ht:=by_rs b t (h t (by simp))
  have e:pC b [t]=[catT [byT b t]]:=by
   rw [pC,pC]
   split <;> rfl
  rw [e,cat_one ht.1,rs_one ht.1,byC,if_pos List.length_nil]
 | t::u::l,h,_=>by
  have hl:∀ x ∈ u::l,Rs x:=fun x hx=>h x (List.mem_cons_of_mem _ hx)
  have h1:=first_rs b (h t (by simp)) hl
  rw [byC,if_neg (by simp),pC]
  split
  ·rw [byC_pC b (u::l) hl (by simp)]
   have:=aS_in (L:=[catT (byT b t::u::l)]) (Q:=pC b (u::l)) (fun x hx=>by rw [List.mem_singleton.1 hx];exact h1) (pC_rs b (u::l) hl)
   exact aS_alt this
  ·exact (rs_one h1).symm
theorem lenL:∀ L:List T,L.length≤cntL L
 | []=>Nat.zero_le _
 | t::L=>by
  rw [cntL,List.length_cons];have:=lenL L;have:=cnt_pos t;omega
theorem fold_lenA:∀ (L:List T) (A:List T × Option Nat),(L.foldl altS A).1.length≤A.1.length+L.length
 | [],A=>Nat.le_refl _
 | t::L,A=>by
  have h1:=fold_lenA L (altS A t);have h2:(altS A t).1.length≤A.1.length+1:=by
   obtain ⟨M,c⟩:=A;unfold altS
   dsimp only
   split
   ·exact Nat.le_succ _
   ·split
    ·cases c with
     | none=>show (M++[clsT t.set]).length≤_;simp
     | some i=>show (M.set i _).length≤_;simp
    ·split
     ·exact Nat.le_succ _
     ·show (M++[t]).length≤_;simp
  rw [List.foldl_cons,List.length_cons];omega
def wk (k:Int) (t:T):Nat:=if t.kind=k then t.subs.length else 1
theorem unf_wk (k:Int) (t:T) (L:List T):(unf k (t::L)).length=wk k t+(unf k L).length:=by
 rw [unf_cons,List.length_append];unfold wk
 split <;> rfl
theorem unf_wk0 (k:Int):(unf k ([]:List T)).length=0:=rfl
theorem wk_cnt (k:Int) (t:T):wk k t≤cnt t:=by
 have h1:=lenL t.subs;have h2:=cnt_eq t;have h3:=cnt_pos t;unfold wk
 split <;> omega
theorem wk_pos {k:Int} (hk:k=3∨k=4) {t:T} (h:Rs t):1≤wk k t:=by
 obtain ⟨d,h1,-⟩:=h;unfold wk
 split
 ·rename_i e
  have:=(many_is h1 (by rw [e];exact hk)).2
  omega
 ·exact Nat.le_refl 1
theorem wk_no (k:Int) (hk:k=3∨k=4):wk k noT=1∧wk k epsT=1:=by
 rcases hk with rfl | rfl <;> exact ⟨rfl,rfl⟩
theorem filter_len:∀ {L:List T},(∀ t ∈ L,Rs t)→(L.filter fun t=>decide (t.kind≠1)).length≤((unf 3 L).filter fun t=>decide (t.kind≠1)).length∧∀ t ∈ L,t.kind=3→2≤((unf 3 L).filter fun t=>decide (t.kind≠1)).length
 | [],_=>⟨Nat.le_refl _,fun t ht=>by cases ht⟩
 | t::L,h=>by
  obtain ⟨h1,h2⟩:=filter_len (L:=L) fun u hu=>h u (List.mem_cons_of_mem _ hu)
  obtain ⟨d,hR,hS⟩:=h t (by simp)
  rw [unf_cons,List.filter_append,List.length_append]
  by_cases hk:t.kind=3
  ·have hm:=(many_is hR (.inl hk)).2
   have hf:(t.subs.filter fun t=>decide (t.kind≠1))=t.subs:=List.filter_eq_self.2 fun u hu=>decide_eq_true (smp_3 hS hk u hu).2.1
   rw [if_pos hk,hf];refine ⟨?_,fun u _ _=>by omega⟩
   rw [List.filter_cons]
   split
   ·rw [List.length_cons]
    omega
   ·omega
  ·rw [if_neg hk]
   refine ⟨?_,fun u hu e=>?_⟩
   ·rw [List.filter_cons,List.filter_cons]
    split
    ·rw [List.length_cons,List.length_cons,List.filter_nil,List.length_nil]
     omega
    ·rw [List.filter_nil,List.length_nil]
     omega
   ·rcases List.mem_cons.1 hu with rfl | hu
    ·exact absurd e hk
    ·have:=h2 u hu e
     omega
theorem catT_cases {L:List T} (h:∀ t ∈ L,Rs t):catT L=noT∨catT L=epsT∨(catT L ∈ L∧(catT L).kind≠3∧(L.filter fun t=>decide (t.kind≠1)).length≤1)∨((catT L).kind=3∧(catT L).subs.length≤(unf 3 L).length):=by
 unfold catT
 split
 ·exact .inl rfl
 obtain ⟨h1,h2⟩:=filter_len h;have hl:=List.length_filter_le (fun t:T=>decide (t.kind≠1)) (unf 3 L)
 have hm:∀ t ∈ (unf 3 L).filter (fun t=>decide (t.kind≠1)),t ∈ unf 3 L:=fun t ht=>(List.mem_filter.1 ht).1
 generalize (unf 3 L).filter (fun t=>decide (t.kind≠1))=F at h1 h2 hl hm ⊢
 rcases join_cases 3 F epsT with ⟨e,ej⟩ | ⟨t,e,ej⟩ | ⟨h4,ej⟩
 ·rw [ej]
  exact .inr (.inl rfl)
 ·rw [ej]
  refine .inr (.inr (.inl ?_));have hF:F.length=1:=by rw [e];rfl
  rcases mem_unf (hm t (by rw [e];simp)) with ⟨h5,h6⟩ | ⟨u,hu,hk,-⟩
  ·exact ⟨h5,h6,by omega⟩
  ·have:=h2 u hu hk
   omega
 ·rw [ej]
  exact .inr (.inr (.inr ⟨rfl,hl⟩))
theorem alt_len {L:List T} (h:∀ t ∈ L,Rs t) {x:T} (hx:x ∈ L) (hk:x.kind=4):x.subs.length≤(aS L).1.length:=by
 obtain ⟨d0,h1,h2⟩:=h x hx;obtain ⟨c,hA⟩:=smp_4 h2 hk;have hm:=(fold_mem (unf 4 L) ([],none) at_start).2;obtain ⟨s1,-⟩:=sub_cnt (x.subs.map unC) ((aS L).1.map unC) (unC_nodup hA) fun y hy=>by
  obtain ⟨t,ht,rfl⟩:=List.mem_map.1 hy;refine hm t ?_ (hA.no t ht);unfold unf;refine List.mem_flatMap.2 ⟨x,hx,?_⟩;rw [if_pos hk];exact ht
 rw [List.length_map,List.length_map] at s1;exact s1
theorem fold_in:∀ (M:List T) (A:List T × Option Nat),∀ t ∈ (M.foldl altS A).1,t.kind=2∨t ∈ A.1∨t ∈ M
 | [],_,t,ht=>.inr (.inl ht)
 | u::M,A,t,ht=>by
  rw [List.foldl_cons] at ht
  rcases fold_in M _ t ht with h | h | h
  ·exact .inl h
  ·obtain ⟨L,c⟩:=A
   unfold altS at h
   dsimp only at h
   split at h
   ·exact .inr (.inl h)
   ·split at h
    ·cases c with
     | none =>
      rcases List.mem_append.1 h with h | h
      ·exact .inr (.inl h)
      ·rw [List.mem_singleton.1 h]
       exact .inl rfl
     | some i =>
      rcases List.mem_or_eq_of_mem_set h with h | h
      ·exact .inr (.inl h)
      ·rw [h]
       exact .inl rfl
    ·split at h
     ·exact .inr (.inl h)
     ·rcases List.mem_append.1 h with h | h
      ·exact .inr (.inl h)
      ·rw [List.mem_singleton.1 h]
       exact .inr (.inr (by simp))
  ·exact .inr (.inr (List.mem_cons_of_mem _ h))
theorem aS_len (L:List T):(aS L).1.length≤(unf 4 L).length:=by
 have h:=fold_lenA (unf 4 L) ([],none)
 simp at h
 exact h
theorem altT_cases {L:List T} (h:∀ t ∈ L,Rs t):(altT L).kind=2∨altT L ∈ L∧(altT L).kind≠4∨((altT L).kind=4∧(altT L).subs.length≤(unf 4 L).length):=by
 have hl:=aS_len L;obtain ⟨hA,-⟩:=aS_alo h
 rcases join_cases 4 (aS L).1 noT with ⟨e,ej⟩ | ⟨t,e,ej⟩ | ⟨h4,ej⟩
 ·rw [altT_aS,ej]
  exact .inl rfl
 ·rw [altT_aS,ej]
  rcases fold_in (unf 4 L) ([],none) t (by show t ∈ (aS L).1;rw [e];simp) with h1 | h1 | h1
  ·exact .inl h1
  ·cases h1
  ·rcases mem_unf h1 with ⟨h5,h6⟩ | ⟨u,hu,hk,-⟩
   ·exact .inr (.inl ⟨h5,h6⟩)
   ·have h2:=alt_len h hu hk
    obtain ⟨d,hR,-⟩:=h u hu;have h3:=(many_is hR (.inr hk)).2;rw [e] at h2
    simp at h2
    omega
 ·rw [altT_aS,ej]
  exact .inr (.inr ⟨rfl,hl⟩)
theorem w4_alt {L:List T} (h:∀ t ∈ L,Rs t):wk 4 (altT L)≤max 1 (unf 4 L).length:=by
 unfold wk
 split
 ·rename_i hk
  rcases altT_cases h with h1 | ⟨-,h1⟩ | ⟨-,h1⟩
  ·rw [h1] at hk;cases hk
  ·exact absurd hk h1
  ·omega
 ·omega
theorem w3_alt {L:List T} (h:∀ t ∈ L,Rs t) {N:Nat} (hN:∀ t ∈ L,wk 3 t≤N):wk 3 (altT L)≤max 1 N:=by
 rcases altT_cases h with h1 | ⟨h1,-⟩ | ⟨h1,-⟩
 ·unfold wk
  rw [if_neg (by rw [h1];decide)]
  omega
 ·have:=hN _ h1
  omega
 ·unfold wk
  rw [if_neg (by rw [h1];decide)]
  omega
theorem w3_cat {L:List T} (h:∀ t ∈ L,Rs t):wk 3 (catT L)≤max 1 (unf 3 L).length:=by
 rcases catT_cases h with h1 | h1 | ⟨-,h1,-⟩ | ⟨h1,h2⟩
 ·rw [h1,(wk_no 3 (.inl rfl)).1];omega
 ·rw [h1,(wk_no 3 (.inl rfl)).2];omega
 ·unfold wk
  rw [if_neg h1];omega
 ·unfold wk
  rw [if_pos h1];omega
theorem w4_cat {L:List T} (h:∀ t ∈ L,Rs t) {N:Nat} (hN:(L.filter fun t=>decide (t.kind≠1)).length≤1→∀ t ∈ L,wk 4 t≤N):wk 4 (catT L)≤max 1 N:=by
 rcases catT_cases h with h1 | h1 | ⟨h1,-,h2⟩ | ⟨h1,h2⟩
 ·rw [h1,(wk_no 4 (.inr rfl)).1];omega
 ·rw [h1,(wk_no 4 (.inr rfl)).2];omega
 ·have:=hN h2 _ h1
  omega
 ·unfold wk
  rw [if_neg (by rw [h1];decide)]
  omega
theorem star_kind:∀ (n:Nat) (t:T),SizeOf.sizeOf t<n→(starT t).kind=1∨(starT t).kind=5
 | 0,t,h=>absurd h (Nat.not_lt_zero _)
 | n+1,t,h=>by
  rw [starT_eq]
  split
  ·exact .inl rfl
  split
  ·rename_i hs
   exact .inr (is_st.1 hs).1
  split
  ·match hs:t.subs with
   | []=>rw [starH];exact .inl rfl
   | u::l =>
    rw [starH];exact star_kind n u (by have:=sub_less (a:=t) (i:=0) (t:=u) (by rw [hs];rfl);omega)
  ·exact .inr rfl
theorem wk_rep {k:Int} (hk:k=3∨k=4) (t:T) (lo hi:Int):wk k (repP t lo hi)≤max 1 (wk k t):=by
 unfold repP
 split
 ·rw [(wk_no k hk).2];omega
 split
 ·omega
 split
 ·unfold wk
  rw [if_neg (by rcases star_kind _ t (Nat.lt_succ_self _) with h | h <;> rw [h] <;> omega)]
  omega
 ·unfold wk
  rw [if_neg (by show ¬ (5:Int)=k;omega)]
  omega
theorem unf_cntL (k:Int):∀ L:List T,(unf k L).length≤cntL L
 | []=>Nat.zero_le _
 | t::L=>by
  have h1:=unf_wk k t L;have h2:=unf_cntL k L;have h3:=wk_cnt k t;rw [cntL];omega
mutual
theorem by_w (b:Nat):∀ (t:T),Rs t→wk 4 (byT b t)+wk 4 t≤2 * cnt t∧wk 3 (byT b t)+wk 3 t≤2 * cnt t
 | .nd k s mn mx l,h=>by
  have hs:=h.sub;obtain ⟨d,hR,hS⟩:=id h;have n4:=wk_no 4 (.inr rfl);have n3:=wk_no 3 (.inl rfl);have hc:cnt (.nd k s mn mx l)=1+cntL l:=by rw [cnt]
  have q4:wk 4 (.nd k s mn mx l)=if k=4 then l.length else 1:=rfl
  have q3:wk 3 (.nd k s mn mx l)=if k=3 then l.length else 1:=rfl
  rw [byT,hc]
  by_cases k2:k=2
  ·subst k2
   rw [if_neg (by decide)] at q4 q3
   rw [if_pos rfl]
   split
   ·rw [n4.2,n3.2];omega
   ·rw [n4.1,n3.1];omega
  rw [if_neg k2]
  by_cases k3:k=3
  ·subst k3
   have hm:=(many_is hR (.inl rfl)).2;have hm:2≤l.length:=hm;have h3:=fun u hu=>smp_3 hS rfl u hu
   obtain ⟨h1,h2⟩:=byC_w b l hs h3 (by intro e;rw [e] at hm;simp at hm)
   rw [if_neg (by decide)] at q4
   rw [if_pos rfl] at q3;rw [if_pos rfl];omega
  rw [if_neg k3]
  by_cases k4:k=4
  ·subst k4
   obtain ⟨hrs,-⟩:=byL_rs b l hs;obtain ⟨h1,h2⟩:=byL_w b l hs;have h3:=w4_alt hrs;have h4:=w3_alt hrs h2;have h5:=lenL l;rw [if_pos rfl] at q4;rw [if_neg (by decide)] at q3
   rw [if_pos rfl];omega
  rw [if_neg k4];rw [if_neg k4] at q4;rw [if_neg k3] at q3
  by_cases k5:k=5∧mx≠0
  ·obtain ⟨rfl,hmx⟩:=k5
   rw [if_pos ⟨rfl,hmx⟩];obtain ⟨a,mn',mx',e,b0,b1,bx,hI⟩:=rep_is hR rfl;injection e with _ e1 e2 e3 e4;subst e1 e2 e3 e4;have ha:=hs a (by simp [T.subs])
   have hSa:Smp a:=smp_subs hS a (by simp [T.subs])
   have hrr:=(rs_rep hI hSa b0 b1 bx hmx).1;obtain ⟨h1,h2⟩:=by_w b a ha;have hrsa:=(by_rs b a ha).1;rw [byR,cntL,cntL];obtain ⟨r,hr⟩:∃ r,repP a (max (mn - 1) 0) (if 0<mx then mx - 1 else mx)=r:=⟨_,rfl⟩
   have r4:=wk_rep (.inr rfl:(4:Int)=3∨(4:Int)=4) a (max (mn - 1) 0) (if 0<mx then mx - 1 else mx)
   have r3:=wk_rep (.inl rfl:(3:Int)=3∨(3:Int)=4) a (max (mn - 1) 0) (if 0<mx then mx - 1 else mx)
   rw [hr] at r4 r3 hrr ⊢;have hL:∀ t ∈ [byT b a,r],Rs t:=fun t ht=>by
    simp only [List.mem_cons,List.not_mem_nil,or_false] at ht
    rcases ht with rfl | rfl
    ·exact hrsa
    ·exact hrr
   have p4:=wk_pos (.inr rfl) ha;have p3:=wk_pos (.inl rfl) ha;have g4:=wk_cnt 4 a;have g3:=wk_cnt 3 a;have c4:=w4_cat hL (N:=2 * cnt a) fun _ t ht=>by
    simp only [List.mem_cons,List.not_mem_nil,or_false] at ht
    rcases ht with rfl | rfl <;> omega
   have c3:=w3_cat hL;rw [unf_wk,unf_wk,unf_wk0] at c3;omega
  rw [if_neg k5,n4.1,n3.1];omega
theorem byL_w (b:Nat):∀ (l:List T),(∀ t ∈ l,Rs t)→(unf 4 (byL b l)).length+l.length≤2 * cntL l∧∀ t ∈ byL b l,wk 3 t≤2 * cntL l
 | [],_=>by rw [byL,cntL];exact ⟨Nat.le_refl _,fun t ht=>by cases ht⟩
 | t::l,h=>by
  have ht:=h t (by simp)
  obtain ⟨h1,h2⟩:=by_w b t ht;obtain ⟨h3,h4⟩:=byL_w b l fun u hu=>h u (List.mem_cons_of_mem _ hu)
  have p4:=wk_pos (.inr rfl) ht;rw [byL,unf_wk,cntL,List.length_cons];refine ⟨by omega,fun u hu=>?_⟩
  rcases List.mem_cons.1 hu with rfl | hu
  ·omega
  ·have:=h4 u hu
   omega
theorem byC_w (b:Nat):∀ (l:List T),(∀ t ∈ l,Rs t)→(∀ u ∈ l,u.kind≠3∧u.kind≠1∧isNo u=false)→l≠[]→wk 4 (byC b l)+1≤2 * cntL l∧wk 3 (byC b l)+l.length≤2 * cntL l
 | [],_,_,h=>absurd rfl h
 | t::l,h,hl,_=>by
  have ht:=h t (by simp)
  have hl':∀ u ∈ l,Rs u:=fun u hu=>h u (List.mem_cons_of_mem _ hu)
  have hs':∀ u ∈ l,u.kind≠3∧u.kind≠1∧isNo u=false:=fun u hu=>hl u (List.mem_cons_of_mem _ hu)
  obtain ⟨h1,h2⟩:=by_w b t ht;have p4:=wk_pos (.inr rfl) ht;have p3:=wk_pos (.inl rfl) ht;rw [byC,cntL,List.length_cons]
  by_cases h0:l.length=0
  ·rw [if_pos h0]
   omega
  rw [if_neg h0];have hne:l≠[]:=fun e=>h0 (by rw [e];rfl)
  have hrs1:=first_rs b ht hl';obtain ⟨g4,g3⟩:=byC_w b l hl' hs' hne;have hbt:=(by_rs b t ht).1;have hLr:∀ u ∈ byT b t::l,Rs u:=fun u hu=>by
   rcases List.mem_cons.1 hu with rfl | hu
   ·exact hbt
   ·exact hl' u hu
  have o3:=w3_cat hLr;rw [unf_wk] at o3;have u3:=unf_cntL 3 l;have lc:=lenL l;have pb3:=wk_pos (.inl rfl) hbt;have pb4:=wk_pos (.inr rfl) hbt;have o4:wk 4 (catT (byT b t::l))+wk 4 (byC b l)+1≤2 * (cnt t+cntL l):=by
   match l,hne with
   | [u],_ =>
    obtain ⟨a4,-⟩:=by_w b u (hl' u (by simp))
    have pu:=wk_pos (.inr rfl) (hl' u (by simp))
    have c4:=w4_cat hLr (N:=wk 4 (byT b t)+wk 4 u) fun _ x hx=>by
     simp only [List.mem_cons,List.not_mem_nil,or_false] at hx
     rcases hx with rfl | rfl <;> omega
    rw [byC,if_pos List.length_nil,cntL,cntL];omega
   | u::v::l',_ =>
    have c4:=w4_cat hLr (N:=1) fun hf=>by
     exfalso
     rw [List.filter_cons] at hf;have e2:((u::v::l').filter fun t=>decide (t.kind≠1))=u::v::l':=List.filter_eq_self.2 fun x hx=>decide_eq_true (hs' x hx).2.1
     rw [e2] at hf
     split at hf <;> simp at hf
    omega
  split
  ·have hLr2:∀ u ∈ [catT (byT b t::l),byC b l],Rs u:=fun u hu=>by
    simp only [List.mem_cons,List.not_mem_nil,or_false] at hu
    rcases hu with rfl | rfl
    ·exact hrs1
    ·exact (byC_rs b l hl').1
   have a4:=w4_alt hLr2;rw [unf_wk,unf_wk,unf_wk0] at a4;have a3:=w3_alt hLr2 (N:=max (wk 3 (catT (byT b t::l))) (wk 3 (byC b l))) fun x hx=>by
    simp only [List.mem_cons,List.not_mem_nil,or_false] at hx
    rcases hx with rfl | rfl <;> omega
   omega
  ·omega
end
theorem one_w (b:Nat) {t:T} {l:List T} (h:∀ u ∈ t::l,Rs u) (hl:∀ u ∈ t::l,u.kind≠3∧u.kind≠1∧isNo u=false) (hne:l≠[]):wk 4 (catT (byT b t::l))+wk 4 (byC b l)+1≤2 * cntL (t::l):=by
 have ht:=h t (by simp)
 have hl':∀ u ∈ l,Rs u:=fun u hu=>h u (List.mem_cons_of_mem _ hu)
 have hs':∀ u ∈ l,u.kind≠3∧u.kind≠1∧isNo u=false:=fun u hu=>hl u (List.mem_cons_of_mem _ hu)
 obtain ⟨h1,h2⟩:=by_w b t ht;have p4:=wk_pos (.inr rfl) ht;obtain ⟨g4,g3⟩:=byC_w b l hl' hs' hne;have hbt:=(by_rs b t ht).1;have hLr:∀ u ∈ byT b t::l,Rs u:=fun u hu=>by
  rcases List.mem_cons.1 hu with rfl | hu
  ·exact hbt
  ·exact hl' u hu
 have pb4:=wk_pos (.inr rfl) hbt;rw [cntL]
 match l,hne with
 | [u],_ =>
  obtain ⟨a4,-⟩:=by_w b u (hl' u (by simp))
  have pu:=wk_pos (.inr rfl) (hl' u (by simp))
  have c4:=w4_cat hLr (N:=wk 4 (byT b t)+wk 4 u) fun _ x hx=>by
   simp only [List.mem_cons,List.not_mem_nil,or_false] at hx
   rcases hx with rfl | rfl <;> omega
  rw [byC,if_pos List.length_nil,cntL,cntL];omega
 | u::v::l',_ =>
  have c4:=w4_cat hLr (N:=1) fun hf=>by
   exfalso
   rw [List.filter_cons] at hf;have e2:((u::v::l').filter fun t=>decide (t.kind≠1))=u::v::l':=List.filter_eq_self.2 fun x hx=>decide_eq_true (hs' x hx).2.1
   rw [e2] at hf
   split at hf <;> simp at hf
  omega
theorem subs_w {t:T} (h:Rs t):t.subs.length≤max 1 (max (wk 3 t) (wk 4 t)):=by
 obtain ⟨d,hR,-⟩:=h;unfold wk
 rcases P10.kinds hR with hk | hk | hk | hk | hk
 ·have:=eps_is hR hk
  rw [this]
  show 0≤_
  omega
 ·rw [(cls_is hR hk).1]
  show 0≤_
  omega
 ·rw [if_pos hk];omega
 ·rw [if_pos hk];omega
 ·obtain ⟨a,mn,mx,e,-⟩:=rep_is hR hk
  rw [e]
  show 1≤_
  omega
theorem by_subs (b:Nat) {t:T} (h:Rs t):(byT b t).subs.length≤2 * cnt t:=by
 have h1:=subs_w (by_rs b t h).1;obtain ⟨h2,h3⟩:=by_w b t h;have:=cnt_pos t;omega
end P12
namespace P07
open Go.RowKit Base IL Bytes
open Sets (ST)
def nextL:List T→List (List T)
 | []=>[]
 | t::L=>if 0<t.subs.length then t.subs::nextL L else nextL L
def lev:List (List T)→List (List T)
 | []=>[]
 | L::X=>nextL L++lev X
def depLL:List (List T)→Nat
 | []=>0
 | L::X=>max (depL L) (depLL X)
def cntLL:List (List T)→Nat
 | []=>0
 | L::X=>cntL L+cntLL X
theorem cntLL_append:∀ X Y,cntLL (X++Y)=cntLL X+cntLL Y
 | [],Y=>by rw [List.nil_append,cntLL];omega
 | L::X,Y=>by rw [List.cons_append,cntLL,cntLL,cntLL_append X Y];omega
theorem next_some:∀ (L:List T),∀ M ∈ nextL L,M≠[]
 | [],M,h=>absurd h (by rw [nextL];simp)
 | t::L,M,h=>by
  rw [nextL] at h
  split at h
  ·rename_i h0
   rcases List.mem_cons.1 h with rfl | h
   ·intro e
    rw [e] at h0;exact absurd h0 (by simp)
   ·exact next_some L M h
  ·exact next_some L M h
theorem next_cnt:∀ L:List T,cntLL (nextL L)+(nextL L).length≤cntL L
 | []=>by rw [nextL,cntLL,cntL];simp
 | t::L=>by
  have:=next_cnt L;rw [nextL,cntL,cnt_eq]
  split
  ·rw [cntLL,List.length_cons]
   omega
  ·omega
structure LR where
 la:List T
 aa:Option Addr
 ca:Nat
@[reducible] def lrcells (x:LR):Array Value:=#[.slice x.aa x.la.length x.ca]
@[reducible] def flatR (X:List LR):List Value:=X.flatMap fun x=>(lrcells x).toList
theorem infoLr:(Tryz.prog.info? 25).map (fun i=>(i.zero,i.size,i.bytes))=some (some (.slice none 0 0),1,24):=by kernel_rfl
theorem flatR_length (X:List LR):(flatR X).length=X.length * 1:=by
 induction X with
 | nil=>rfl
 | cons x X ih =>
  unfold flatR at *;rw [List.flatMap_cons,List.length_append,ih,List.length_cons]
  simp
  omega
theorem flatR_append (X Y:List LR):flatR (X++Y)=flatR X++flatR Y:=List.flatMap_append ..
theorem flatR_at:∀ (X:List LR) (i:Nat) (x:LR),X[i]?=some x→(flatR X)[i]?=some (.slice x.aa x.la.length x.ca)
 | [],i,x,h=>by simp at h
 | y::X,0,x,h=>by
  simp at h
  subst h
  rfl
 | y::X,i+1,x,h=>by
  have ih:=flatR_at X i x (by simpa using h)
  have e:flatR (y::X)=(lrcells y).toList++flatR X:=rfl;rw [e,List.getElem?_append_right (by simp),← ih]
  congr 1
structure LrOk (W:World) (n0:Nat) (x:LR):Prop where
 ca:x.la.length≤x.ca
 la:Lie W (fun k=>k<n0) x.aa x.la
theorem LrOk.keep {S:Nat→Prop} {W W':World} {n0:Nat} {x:LR} (h:LrOk W n0 x) (q:Keep S W W') (hS:∀ k,k<n0→¬ S k):LrOk W' n0 x:=⟨h.ca,h.la.keep q hS⟩
structure OR (W:World) (n0:Nat) (u:Value) (X:List LR):Prop where
 row:W.ownsRow 0 25 1 u X.length (flatR X)
 own:∀ g,u.ownBlock=some g→n0≤g
 ok:∀ x ∈ X,LrOk W n0 x
theorem OR.keep {S:Nat→Prop} {W W':World} {n0:Nat} {u:Value} {X:List LR} (h:OR W n0 u X) (q:Keep S W W') (hS:∀ k,S k→n0≤k∧u.ownBlock≠some k):OR W' n0 u X:=by
 refine ⟨⟨h.row.1,?_⟩,h.own,fun x hx=>(h.ok x hx).keep q (fun k hk e=>by have:=(hS k e).1;omega)⟩
 rcases h.row.2 with h1 | ⟨g,cap,cur,rfl,hb,hg,r⟩
 ·exact .inl h1
 ·refine .inr ⟨g,cap,cur,rfl,hb,?_,r⟩
  have:At W g 25 cur:=hg;exact this.keep q (fun e=>(hS g e).2 rfl)
theorem OR.keepF {W W':World} {n0:Nat} {u:Value} {X:List LR} (h:OR W n0 u X) (q:Keep (fun _=>False) W W'):OR W' n0 u X:=h.keep q (fun _ h=>h.elim)
theorem OR.lt {W:World} {n0:Nat} {u:Value} {X:List LR} (h:OR W n0 u X) {g:Nat} (hg:u.ownBlock=some g):g<W.heap.size:=by
 rcases h.row.2 with ⟨rfl,h0⟩ | ⟨g',cap,cur,rfl,hb,hc,r⟩
 ·cases hg
 ·have:At W g' 25 cur:=hc
  injection hg with hg;subst hg;exact this.lt
theorem OR.form {W:World} {n0:Nat} {u:Value} {X:List LR} (h:OR W n0 u X):∃ a cap,u=.slice a X.length cap∧X.length≤9223372036854775807∧∀ i x,X[i]?=some x→∃ g,a=some ⟨g,0,none⟩∧W.cell? ⟨g,i,none⟩=some (.slice x.aa x.la.length x.ca):=by
 rcases h.row.2 with ⟨rfl,h0⟩ | ⟨g,cap,cur,rfl,hb,hg,h5,h6,h7,h8⟩
 ·have e:X=[]:=List.eq_nil_of_length_eq_zero h0
  subst e;exact ⟨none,0,rfl,by simp,fun i x hx=>by simp at hx⟩
 ·have ha:At W g 25 cur:=hg
  refine ⟨_,cap,rfl,by unfold maxLen at h6;omega,fun i x hx=>⟨g,rfl,ha.cell ?_⟩⟩
  have hi:i<X.length:=(List.getElem?_eq_some_iff.1 hx).1;have h9:=flatR_at X i x hx;have h10:(cur.toList.take (X.length * 1))[i]?=(flatR X)[i]?:=by rw [h8]
  rw [List.getElem?_take_of_lt (by omega),h9] at h10
  simpa using h10
theorem OR.nil (W:World) (n0:Nat):OR W n0 (.slice none 0 0) []:=⟨⟨rfl,.inl ⟨rfl,rfl⟩⟩,fun g hg=>(by cases hg),by simp⟩
theorem OR.one {W:World} {n0:Nat} {p:LR} (hp:LrOk W n0 p) (hn:n0≤W.heap.size) :
  OR (W.alloc (.cells (lrcells p) 25)) n0 (.slice (some ⟨W.heap.size,0,none⟩) 1 1) [p]:=by
 refine ⟨⟨by rw [flatR_length],.inr ⟨W.heap.size,1,lrcells p,rfl,Nat.zero_le _,At.new W _ _,Nat.le_refl 1,by decide,rfl,by simp⟩⟩,fun g hg=>?_,fun x hx=>?_⟩
 ·injection hg with hg
  rw [← hg];exact hn
 ·rw [List.mem_singleton.1 hx]
  exact hp.keep ((Keep.refl (fun _=>False) W).alloc _) (fun _ _ h=>h)
theorem OR.push {W:World} {n0:Nat} {u:Value} {X:List LR} (h:OR W n0 u X) (p:LR) (hp:LrOk W n0 p) (hn:n0≤W.heap.size) (hlen:X.length≤1000000000) (ty:TypeId) :
  ∃ v' w',(Builtin.append_ #[120,120] ty #[u,.slice (some ⟨W.heap.size,0,none⟩) 1 1]).run Tryz.prog (W.alloc (.cells (lrcells p) 25))=.ok v' w'∧OR w' n0 v' (X++[p])∧Keep (fun b=>u.ownBlock=some b) W w'∧(∀ g,v'.ownBlock=some g→u.ownBlock=some g∨W.heap.size≤g):=by
 have qa:=(Keep.refl (fun _=>False) W).alloc (.cells (lrcells p) 25)
 have ha:=At.new W (lrcells p) 25;have h1:=(h.keepF qa).row;obtain ⟨i0,hi0,hz0,hz1,hz2⟩:=info_parts infoLr;obtain ⟨v',w',hrun,g2,g3,_,g5⟩:=run_append_own_at (P:=Tryz.prog) (W.alloc (.cells (lrcells p) 25)) 0 120 ty 25 i0 (.slice none 0 0) 1 24 Tryz.underlying120 hi0 hz0 hz1 hz2 rfl (by omega) u X.length (flatR X) h1 ⟨W.heap.size,0,none⟩ 1 1 (lrcells p).toList rfl
  (fun j v hv=>by
   have:=ha.cell (o:=j) (v:=v) (by simpa using hv)
   have e:(⟨W.heap.size,0,none⟩:Addr).add j=⟨W.heap.size,j,none⟩:=by
    unfold Addr.add
    split
    ·rename_i hz
     rw [hz]
    ·simp
   rw [e]
   exact this)
  (by intro v hv;simp at hv;subst hv;rfl) (by simp only [maxLen];omega) (by omega) (Nat.zero_le _)
 have q:Keep (fun b=>u.ownBlock=some b) W w':=(qa.mono (fun _ h=>h.elim)).trans (pkeep_grown g3)
 have hbl:∀ g,v'.ownBlock=some g→u.ownBlock=some g∨W.heap.size≤g:=fun g hg=>by
  rcases g5 with g5 | g5
  ·exact .inl (by rw [← g5];exact hg)
  ·rw [g5] at hg
   injection hg with hg
   simp at hg
   exact .inr (by omega)
 refine ⟨v',w',hrun,⟨?_,fun g hg=>?_,fun x hx=>?_⟩,q,hbl⟩
 ·rw [List.length_append,flatR_append]
  have e:flatR [p]=(lrcells p).toList:=by unfold flatR;simp
  rw [e];exact g2
 ·rcases hbl g hg with h2 | h2
  ·exact h.own g h2
  ·omega
 ·have hS:∀ k,k<n0→¬ u.ownBlock=some k:=fun k hk e=>by have:=h.own k e;omega
  rcases List.mem_append.1 hx with hx | hx
  ·exact (h.ok x hx).keep q hS
  ·rw [List.mem_singleton.1 hx]
   exact hp.keep q hS
structure InB (n0:Nat) (W0:World) (u0:Value) (X0:List LR) (rest:List (List T)) (u:Value) (X:List LR) (W:World):Prop where
 row:OR W n0 u X
 old:OR W n0 u0 X0
 own:∀ g,u.ownBlock=some g→W0.heap.size≤g
 eq:X.map (·.la)++rest=lev (X0.map (·.la))
 keep:Keep (fun _=>False) W0 W
theorem InB.len {n0:Nat} {W0:World} {u0:Value} {X0:List LR} {rest:List (List T)} {u:Value} {X:List LR} {W:World} (I:InB n0 W0 u0 X0 rest u X W):X.length≤(lev (X0.map (·.la))).length:=by
 rw [← I.eq,List.length_append,List.length_map];omega
structure InD (w:World) (n0:Nat) (a:T) (m d:Nat) (u:Value) (X:List LR) (W:World):Prop where
 row:OR W n0 u X
 eq:d+depLL (X.map (·.la))=dep a
 some:∀ L ∈ X.map (·.la),L≠[]
 cnt:cntLL (X.map (·.la))≤100000000
 dm:depLL (X.map (·.la))≤m
 keep:Keep (fun _=>False) w W
 low:n0≤W.heap.size
end P07
namespace P12
open P07 P08 P09 P10
open Sets (ST)
def vi (n:Nat):List UInt8:=if h:128≤n then UInt8.ofNat (n % 128+128)::vi (n / 128) else [UInt8.ofNat n]
termination_by n
theorem vi_big {n:Nat} (h:128≤n):vi n=UInt8.ofNat (n % 128+128)::vi (n / 128):=by rw [vi,dif_pos h]
theorem vi_small {n:Nat} (h:n<128):vi n=[UInt8.ofNat n]:=by rw [vi,dif_neg (by omega)]
theorem of_nat_inj {a b:Nat} (ha:a<256) (hb:b<256) (h:UInt8.ofNat a=UInt8.ofNat b):a=b:=by
 have:=congrArg UInt8.toNat h;rw [UInt8.toNat_ofNat',UInt8.toNat_ofNat'] at this;omega
theorem vi_inj:∀ (n m:Nat) (r s:List UInt8),vi n++r=vi m++s→n=m∧r=s:=by
 intro n
 induction n using Nat.strongRecOn with
 | _ n ih =>
  intro m r s h
  by_cases hn:128≤n
  ·rw [vi_big hn] at h
   by_cases hm:128≤m
   ·rw [vi_big hm,List.cons_append,List.cons_append] at h
    injection h with h1 h2;have e:=of_nat_inj (by omega) (by omega) h1
    obtain ⟨e2,e3⟩:=ih (n / 128) (by omega) (m / 128) r s h2
    exact ⟨by omega,e3⟩
   ·rw [vi_small (n:=m) (by omega),List.cons_append,List.cons_append] at h
    injection h with h1 h2;have e:=of_nat_inj (by omega) (by omega) h1
    omega
  ·rw [vi_small (n:=n) (by omega)] at h
   by_cases hm:128≤m
   ·rw [vi_big hm,List.cons_append,List.cons_append] at h
    injection h with h1 h2;have e:=of_nat_inj (by omega) (by omega) h1
    omega
   ·rw [vi_small (n:=m) (by omega),List.cons_append,List.cons_append] at h
    injection h with h1 h2;exact ⟨of_nat_inj (by omega) (by omega) h1,h2⟩
theorem vi_len:∀ n:Nat,n<18446744073709551616→(vi n).length≤10:=by
 have h:∀ (k n:Nat),n<128 ^ (k+1)→(vi n).length≤k+1:=by
  intro k
  induction k with
  | zero =>
   intro n hn;rw [vi_small (by simpa using hn)]
   exact Nat.le_refl _
  | succ k ih =>
   intro n hn
   by_cases h1:128≤n
   ·rw [vi_big h1,List.length_cons]
    have:=ih (n / 128) (by
     rw [Nat.pow_succ] at hn
     exact Nat.div_lt_of_lt_mul (by rw [Nat.mul_comm];exact hn))
    omega
   ·rw [vi_small (by omega)]
    simp
 intro n hn;exact h 9 n (by omega)
def u64 (x:Int):Nat:=(x % 18446744073709551616).toNat
theorem u64_inj {x y:Int} (hx:-9223372036854775808≤x∧x≤9223372036854775807) (hy:-9223372036854775808≤y∧y≤9223372036854775807) (h:u64 x=u64 y):x=y:=by
 unfold u64 at h;omega
def wds (t:T):List Nat:=[u64 t.kind,u64 t.mn,u64 t.mx,t.set.x0,t.set.x1,t.set.x2,t.set.x3,t.subs.length]
def keyW (l:List Nat):List UInt8:=l.flatMap vi
theorem keyW_inj:∀ (l m:List Nat) (r s:List UInt8),l.length=m.length→keyW l++r=keyW m++s→l=m∧r=s
 | [],[],r,s,_,h=>⟨rfl,h⟩
 | [],_::_,_,_,hl,_=>by cases hl
 | _::_,[],_,_,hl,_=>by cases hl
 | a::l,b::m,r,s,hl,h=>by
  unfold keyW at h;rw [List.flatMap_cons,List.flatMap_cons,List.append_assoc,List.append_assoc] at h;obtain ⟨e1,e2⟩:=vi_inj a b _ _ h;obtain ⟨e3,e4⟩:=keyW_inj l m r s (by simpa using hl) e2
  exact ⟨by rw [e1,e3],e4⟩
mutual
def keyT:T→List UInt8
 | .nd k s mn mx l=>keyW [u64 k,u64 mn,u64 mx,s.x0,s.x1,s.x2,s.x3,l.length]++keyL l
def keyL:List T→List UInt8
 | []=>[]
 | t::l=>keyT t++keyL l
end
theorem keyT_eq (t:T):keyT t=keyW (wds t)++keyL t.subs:=by cases t;rw [keyT];rfl
theorem keyL_append (l m:List T):keyL (l++m)=keyL l++keyL m:=by
 induction l with
 | nil=>rw [keyL];rfl
 | cons t l ih=>rw [List.cons_append,keyL,keyL,ih,List.append_assoc]
def Fld (t:T):Prop:=(-9223372036854775808≤t.kind∧t.kind≤9223372036854775807)∧(-9223372036854775808≤t.mn∧t.mn≤9223372036854775807)∧(-9223372036854775808≤t.mx∧t.mx≤9223372036854775807)
theorem rs_fld {t:T} (h:Rs t):Fld t:=by
 obtain ⟨d,hR,-⟩:=h
 rcases P10.kinds hR with k | k | k | k | k
 ·rw [eps_is hR k]
  unfold Fld epsT T.kind T.mn T.mx
  dsimp only
  omega
 ·rw [(cls_is hR k).1]
  unfold Fld clsT T.kind T.mn T.mx
  dsimp only
  omega
 ·rw [(many_is hR (.inl k)).1,k]
  unfold Fld T.kind T.mn T.mx
  dsimp only
  omega
 ·rw [(many_is hR (.inr k)).1,k]
  unfold Fld T.kind T.mn T.mx
  dsimp only
  omega
 ·obtain ⟨a,mn,mx,e,b0,b1,bx,-⟩:=rep_is hR k
  rw [e];unfold Fld T.kind T.mn T.mx
  dsimp only
  omega
mutual
theorem keyT_inj:∀ (t u:T),Rs t→Rs u→∀ r s,keyT t++r=keyT u++s→t=u∧r=s
 | .nd k a mn mx l,.nd k' a' mn' mx' l',ht,hu,r,s,h=>by
  have f1:=rs_fld ht;have f2:=rs_fld hu;rw [keyT,keyT,List.append_assoc,List.append_assoc] at h;obtain ⟨e1,e2⟩:=keyW_inj _ _ _ _ (by rfl) h
  have f1:(-9223372036854775808≤k∧k≤9223372036854775807)∧(-9223372036854775808≤mn∧mn≤9223372036854775807)∧(-9223372036854775808≤mx∧mx≤9223372036854775807):=f1;have f2:(-9223372036854775808≤k'∧k'≤9223372036854775807)∧(-9223372036854775808≤mn'∧mn'≤9223372036854775807)∧(-9223372036854775808≤mx'∧mx'≤9223372036854775807):=f2;injection e1 with e1 e1';injection e1' with e3 e1';injection e1' with e4 e1';injection e1' with e5 e1';injection e1' with e6 e1';injection e1' with e7 e1';injection e1' with e8 e1';injection e1' with e9 _;obtain ⟨e10,e11⟩:=keyL_inj l l' e9 ht.sub hu.sub r s e2;have ea:a=a':=by
   cases a
   cases a'
   simp only at e5 e6 e7 e8
   subst e5 e6 e7 e8
   rfl
  rw [u64_inj f1.1 f2.1 e1,u64_inj f1.2.1 f2.2.1 e3,u64_inj f1.2.2 f2.2.2 e4,ea,e10];exact ⟨rfl,e11⟩
theorem keyL_inj:∀ (l m:List T),l.length=m.length→(∀ t ∈ l,Rs t)→(∀ t ∈ m,Rs t)→∀ r s,keyL l++r=keyL m++s→l=m∧r=s
 | [],[],_,_,_,r,s,h=>⟨rfl,h⟩
 | [],_::_,hl,_,_,_,_,_=>by cases hl
 | _::_,[],hl,_,_,_,_,_=>by cases hl
 | t::l,u::m,hl,h1,h2,r,s,h=>by
  rw [keyL,keyL,List.append_assoc,List.append_assoc] at h;obtain ⟨e1,e2⟩:=keyT_inj t u (h1 t (by simp)) (h2 u (by simp)) _ _ h
  obtain ⟨e3,e4⟩:=keyL_inj l m (by simpa using hl) (fun x hx=>h1 x (List.mem_cons_of_mem _ hx)) (fun x hx=>h2 x (List.mem_cons_of_mem _ hx)) r s e2
  exact ⟨by rw [e1,e3],e4⟩
end
theorem key_inj {t u:T} (ht:Rs t) (hu:Rs u) (h:keyT t=keyT u):t=u:=(keyT_inj t u ht hu [] [] (by rw [List.append_nil,List.append_nil];exact h)).1
end P12
namespace P12
open Go.RowKit Base Bytes P07 P08 P09
open Sets (ST)
theorem ctoL_drop {m:Nat} {L:List T} {j:Nat} {s:T} (h:L[j]?=some s) (K:Nat):ctoL m K (L.drop j)=if K<m then ctoL m (K+cto m s) (L.drop (j+1)) else K:=by
 have hj:=(List.getElem?_eq_some_iff.1 h).1;have hg:=(List.getElem?_eq_some_iff.1 h).2;rw [List.drop_eq_getElem_cons hj,hg,ctoL]
theorem fcount_all (m:Nat) (hm:m≤1000000):∀ (n:Nat) (t:T),SizeOf.sizeOf t<n→cnt t≤1000000000→∀ (a:Option Addr) (c:Nat) (w:World),Lie w (fun _=>True) a t.subs →
  Calls Tryz.prog 54 #[nodeV t a c,.int .i64 (m:Int)] w fun e w'=>e=.returned (.int .i64 (cto m t))∧Keep (fun _=>False) w w'
 | 0,_,h,_,_,_,_,_=>absurd h (Nat.not_lt_zero _)
 | n+1,t,h,hc,a,c,w,hL=>by
  have hlen:=hL.len;have H0:=hid (And.intro ((Keep.refl (fun _=>False) w).alloc (.cells (ncells t a c) 27)) (And.intro (Bx.new (c:=c) hL) (fcount_all m hm n)))
  have e:cnt t=1+cntL t.subs:=cnt_eq t;have e2:cto m t=ctoL m 1 t.subs:=by cases t;rw [cto];rfl
  obtain ⟨C,hC⟩:∃ C,cto m t=C:=⟨_,rfl⟩;rw [hC] at e2 ⊢;have HE:=hid (And.intro e (And.intro e2 (cntL_pre t.subs)));have HN:=hid (And.intro h hc);clear hL e hC h e2 hc
  go_enter Tryz.func54,Tryz.ntmps54
  go_upto_region 1 with fail;generalize (w.alloc (.cells (ncells t a c) 27))=W at *;generalize w.heap.size=n0 at *;go_wp2_with fail
  go_loopg [5,6] t.subs.length (fun gg x i wr=>∃ (k:Nat) (M:Nat),i=.int .i64 k∧k+gg=t.subs.length∧x=.int .i64 M∧C=ctoL m M (t.subs.drop k)∧M≤1+cntL (t.subs.take k)∧Keep (fun _=>False) W wr)
  case atStart=>exact ⟨0,1,rfl,by omega,rfl,by rw [List.drop_zero];exact HE.out.2.1,by omega,Keep.refl _ _⟩
  case round =>
   obtain ⟨k,M,rfl,hk,rfl,hM,hMb,hq⟩:=hrel;have B1:=H0.out.2.1.keep hq;obtain ⟨-,-,-,-,-,-,-,c7⟩:=B1.eight
   by_cases hlt:k<t.subs.length
   ·have hlt':(k:Int)<t.subs.length:=by omega
    have i0:(0:Int)≤k:=by omega
    obtain ⟨s,hs⟩:∃ s,t.subs[k]?=some s:=⟨t.subs[k],List.getElem?_eq_getElem hlt⟩;rw [ctoL_drop hs] at hM
    by_cases hMm:M<m
    ·have hMm':(M:Int)<m:=by omega
     rw [if_pos hMm] at hM;obtain ⟨bl,off,a1,e1,rfl,L1,d0,d1,d2,d3,d4,d5,d6,d7⟩:=B1.sub hs;have hsl:=sub_less hs;have hcs:=cntL_le hs;have ht:=cntL_take hs;have hpre:=HE.out.2.2 (k+1);have he:=HE.out.1;have hcc:=(cto_ok m s).1;have hcall:=H0.out.2.2 s (by have:=HN.out.1;omega) (by have:=HN.out.2;omega) a1 e1 wr L1
     obtain ⟨Y,hY⟩:∃ Y,cto m s=Y:=⟨_,rfl⟩;rw [hY] at hcall hM hcc;have hb2:M+Y≤1000000000:=by have:=HN.out.2;omega
     have HQ:=hid (And.intro hq (And.intro hcall (And.intro hM (show M+Y≤1+cntL (t.subs.take (k+1)) by omega))))
     clear hq hcall ht hM B1 hs hcs hpre he hY hMb hcc;go_wp2_with fail;refine HQ.out.2.1.mono ?_;rintro e w2 ⟨rfl,q2⟩;have Q2:=hid (HQ.out.1.trans q2);clear q2 c7 d0 d1 d2 d3 d4 d5 d6 d7;go_wp2_with fail
     go_roundg (t.subs.length - (k+1))
     case measure=>omega
     case rel=>exact ⟨k+1,M+Y,by go_num,by omega,by go_num,HQ.out.2.2.1,HQ.out.2.2.2,Q2.out⟩
    ·have hMm':¬ (M:Int)<m:=by omega
     rw [if_neg hMm] at hM;have HQ:=hid (And.intro hq hM);clear hq hM B1 hMb hs;go_wp2_with fail;go_ret;exact ⟨by rw [HQ.out.2];rfl,H0.out.1.trans HQ.out.1⟩
   ·have hke:k=t.subs.length:=by omega
    subst hke;rw [List.drop_length,ctoL] at hM;have HQ:=hid (And.intro hq hM);clear hq hM B1 hMb;go_wp2_with fail;go_ret;exact ⟨by rw [HQ.out.2];rfl,H0.out.1.trans HQ.out.1⟩
theorem fgreat_any (t:T) (hc:cnt t≤1000000000) {B:Bool} (hB:decide (4000<cnt t)=B) (a:Option Addr) (c:Nat) (w:World) (hL:Lie w (fun _=>True) a t.subs) :
  Calls Tryz.prog 32 #[nodeV t a c] w fun e w'=>e=.returned (.bool B)∧Keep (fun _=>False) w w':=by
 have q:=(Keep.refl (fun _=>False) w).alloc (.cells (ncells t a c) 27)
 have hcall:=fcount_all 4001 (by decide) _ t (Nat.lt_succ_self _) hc a c _ (hL.keepF q)
 have h0:=cto_great 4001 t;have hcc:=(cto_ok 4001 t).1;obtain ⟨x,hx⟩:∃ x,cto 4001 t=x:=⟨_,rfl⟩;rw [hx] at hcall h0 hcc
 have HB:=hid (show decide (4000<(x:Int))=B by
  rw [← hB,Bool.eq_iff_iff,decide_eq_true_eq,decide_eq_true_eq]
  omega)
 have HC:=hid (And.intro hcall q);obtain ⟨⟨y0,y1,y2,y3,y4,y5,y6,y7⟩,-⟩:=cells8 (At.new w (ncells t a c) 27);clear hcall q hx h0 hB hcc
 go_enter Tryz.func32,Tryz.ntmps32
 go_wp2_with fail;refine HC.out.1.mono ?_;rintro e w1 ⟨rfl,q1⟩;have HQ:=hid (HC.out.2.trans q1);clear q1;go_wp2_with fail;go_ret;exact ⟨by rw [← HB.out];rfl,HQ.out⟩
end P12
end Go.Proofs.YtlmfbchgkjgljaaGreat

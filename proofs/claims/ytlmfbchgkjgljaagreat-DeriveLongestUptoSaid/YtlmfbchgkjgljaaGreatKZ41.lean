/- Layer 12, plain: the longest match by what is left is that by sets of places. -/
import Derived.Test.YtlmfbchgkjgljaaGreatKZ40
import Derived.Test.YtlmfbchgkjgljaaGreatKZ33
namespace Go.Proofs.YtlmfbchgkjgljaaGreat
namespace P12
open Go.RowKit Base Bytes P07 P08 P09 P10
open Sets (ST)
open P11 (On rowT endsI plc lastI EndAt rowT_ok plc_succ seg seg_whole)
theorem last_plc (X:List Bool):∀ k,(lastI (plc X k)=-1∧∀ j,j<k→¬ On X j)∨∃ m,m<k∧lastI (plc X k)=(m:Int)∧On X m∧∀ j,m<j→j<k→¬ On X j
 | 0=>.inl ⟨rfl,fun j hj=>absurd hj (Nat.not_lt_zero _)⟩
 | k+1=>by
  rw [plc_succ]
  by_cases h:X.getD k false=true
  ·rw [if_pos h]
   refine .inr ⟨k,Nat.lt_succ_self k,?_,h,fun j h1 h2=>by omega⟩
   unfold lastI
   simp
  ·rw [if_neg h]
   rcases last_plc X k with ⟨h1,h2⟩ | ⟨m,h1,h2,h3,h4⟩
   ·refine .inl ⟨h1,fun j hj=>?_⟩
    by_cases e:j=k
    ·subst e
     exact h
    ·exact h2 j (by omega)
   ·refine .inr ⟨m,by omega,h2,h3,fun j a b=>?_⟩
    by_cases e:j=k
    ·subst e
     exact h
    ·exact h4 j a (by omega)
theorem on_mat {t:T} (hR:RT 12 t) {s:List UInt8} {f:Nat} (hf:f≤s.length) (j:Nat):On (rowT s t f) j↔f≤j∧j≤s.length∧Mat (simT t) ((s.drop f).take (j - f)):=by
 rw [(rowT_ok hR hf).2 j];unfold EndAt seg;rw [(sim_ok t 12 hR).1.mat]
theorem long_last {t:T} (hR:RT 12 t) {s:List UInt8} {f:Nat} (hf:f≤s.length) {x:Int} (h:longG (simT t) (-1) f (s.drop f)=some x):x=lastI (endsI s t f):=by
 unfold endsI;have hl:(s.drop f).length=s.length - f:=List.length_drop
 rcases long_ok _ _ _ _ x (sim_rs hR) h with ⟨h1,h2⟩ | ⟨k,h1,h2,h3,h4⟩
 ·rcases last_plc (rowT s t f) (s.length+1) with ⟨a1,-⟩ | ⟨m,a1,a2,a3,a4⟩
  ·rw [h1,a1]
  ·obtain ⟨b1,b2,b3⟩:=(on_mat hR hf m).1 a3
   exact (h2 (m - f) (by omega) b3).elim
 ·have hk:On (rowT s t f) (f+k):=(on_mat hR hf (f+k)).2 ⟨by omega,by omega,by rw [show f+k - f=k by omega];exact h3⟩
  rcases last_plc (rowT s t f) (s.length+1) with ⟨-,a2⟩ | ⟨m,a1,a2,a3,a4⟩
  ·exact (a2 (f+k) (by omega) hk).elim
  ·obtain ⟨b1,b2,b3⟩:=(on_mat hR hf m).1 a3
   have h5:¬ m<f+k:=fun hm=>a4 (f+k) hm (by omega) hk
   have h6:¬ f+k<m:=fun hm=>h4 (m - f) (by omega) (by omega) b3
   rw [a2,h2];omega
end P12
end Go.Proofs.YtlmfbchgkjgljaaGreat

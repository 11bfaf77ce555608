/- The document's Best (layer 11). -/
import Derived.Test.YthcjfgfbeollpaaDoorKB38
import Derived.Test.YthcjfgfbeollpaaDoorKB41
import Derived.Test.YthcjfgfbeollpaaDoorKB28
import Derived.Test.YthcjfgfbeollpaaDoorKB27
import Derived.Test.YthcjfgfbeollpaaDoorKB32
namespace Go.Proofs.YthcjfgfbeollpaaDoor
namespace P11
open Go.RowKit Base Bytes P07 P08 P09
open Sets (ST)
noncomputable def farI (s:List UInt8) (f:Nat) (t:T):Int:=lastI (endsI s t f)
noncomputable def bestS (s:List UInt8) (f:Nat):List RU→Int→Int × Int→Int × Int
 | [],_,p=>p
 | x::L,i,p=>bestS s f L (i+1) (if rightB x.re=true∧(f:Int)<farI s f x.re∧p.2<farI s f x.re then (i,farI s f x.re) else p)
noncomputable def bestI (s:List UInt8) (f:Int) (L:List RU):Int × Int:=if 0≤f∧f≤s.length then bestS s f.toNat L 0 (-1,-1) else (-1,-1)
end P11
namespace P11
open Go.RowKit Base Bytes P07 P08 P09 P10 IL
open Sets (ST)
def starT (t:T):T:=.nd 5 ST.none 0 (-1) [t]
theorem match_row {s:List UInt8} {t:T} {d:Nat} (hR:RT d t):pb (P10.Mat t s)=(rowT s t 0).getD s.length false:=by
 refine pb_is ?_;have h:=(rowT_ok (s:=s) hR (Nat.zero_le _)).2 s.length;unfold On at h;rw [h];unfold EndAt;rw [seg_whole];exact ⟨fun h=>⟨Nat.zero_le _,Nat.le_refl _,h⟩,fun h=>h.2.2⟩
def altP (a b:T):T:=.nd 4 ST.none 0 0 [a,b]
def catP (a b:T):T:=.nd 3 ST.none 0 0 [a,b]
theorem altP_mat (a b:T) (w:List UInt8):P10.Mat (altP a b) w↔P10.Mat a w∨P10.Mat b w:=by
 unfold altP;rw [mat_4,malt_cons,malt_cons]
 constructor
 ·rintro (h | h | h)
  ·exact .inl h
  ·exact .inr h
  ·exact absurd h (malt_nil _)
 ·rintro (h | h)
  ·exact .inl h
  ·exact .inr (.inl h)
theorem catP_mat (a b:T) (w:List UInt8):P10.Mat (catP a b) w↔∃ u v,w=u++v∧P10.Mat a u∧P10.Mat b v:=by
 unfold catP;rw [mat_3,mcat_cons]
 constructor
 ·rintro ⟨u,v,rfl,h1,h2⟩
  obtain ⟨x,y,rfl,h3,h4⟩:=(mcat_cons _ _ _).1 h2;rw [mcat_nil] at h4;subst h4;exact ⟨u,x,by rw [List.append_nil],h1,h3⟩
 ·rintro ⟨u,v,rfl,h1,h2⟩
  exact ⟨u,v,rfl,h1,(mcat_cons _ _ _).2 ⟨v,[],by rw [List.append_nil],h2,(mcat_nil _).2 rfl⟩⟩
theorem alt_on {s:List UInt8} {a b:T} {d1 d2 d3 f:Nat} (hP:RT d1 (altP a b)) (hA:RT d2 a) (hB:RT d3 b) (hf:f≤s.length) (j:Nat):On (rowT s (altP a b) f) j↔On (rowT s a f) j∨On (rowT s b f) j:=by
 rw [(rowT_ok hP hf).2 j,(rowT_ok hA hf).2 j,(rowT_ok hB hf).2 j];unfold EndAt;rw [altP_mat]
 constructor
 ·rintro ⟨h1,h2,h3 | h3⟩
  ·exact .inl ⟨h1,h2,h3⟩
  ·exact .inr ⟨h1,h2,h3⟩
 ·rintro (⟨h1,h2,h3⟩ | ⟨h1,h2,h3⟩)
  ·exact ⟨h1,h2,.inl h3⟩
  ·exact ⟨h1,h2,.inr h3⟩
theorem cat_on {s:List UInt8} {a b:T} {d1 d2 d3 f:Nat} (hP:RT d1 (catP a b)) (hA:RT d2 a) (hB:RT d3 b) (hf:f≤s.length) (j:Nat):On (rowT s (catP a b) f) j↔∃ i,i≤s.length∧On (rowT s a f) i∧On (rowT s b i) j:=by
 rw [(rowT_ok hP hf).2 j];unfold EndAt;rw [catP_mat]
 constructor
 ·rintro ⟨h1,h2,h3⟩
  obtain ⟨k,k1,k2,h4,h5⟩:=(seg_seq h1 h2 _ _).1 h3;have hk:k≤s.length:=by omega
  exact ⟨k,hk,((rowT_ok hA hf).2 k).2 ⟨k1,hk,h4⟩,((rowT_ok hB hk).2 j).2 ⟨k2,h2,h5⟩⟩
 ·rintro ⟨k,hk,h1,h2⟩
  obtain ⟨a1,a2,a3⟩:=((rowT_ok hA hf).2 k).1 h1;obtain ⟨b1,b2,b3⟩:=((rowT_ok hB hk).2 j).1 h2;exact ⟨by omega,b2,(seg_seq (by omega) b2 _ _).2 ⟨k,a1,b1,a3,b3⟩⟩
def cntP (X:List Bool):Nat→Nat
 | 0=>0
 | k+1=>if X.getD k false=true then cntP X k+1 else cntP X k
theorem plc_count (X:List Bool):∀ k,(plc X k).length=cntP X k
 | 0=>by simp [plc,lst,cntP]
 | k+1=>by
  rw [plc_succ,cntP,← plc_count X k]
  split
  ·rw [List.length_append,List.length_singleton]
  ·rfl
end P11
end Go.Proofs.YthcjfgfbeollpaaDoor

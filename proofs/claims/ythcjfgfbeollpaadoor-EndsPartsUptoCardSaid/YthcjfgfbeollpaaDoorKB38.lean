/- The document's All and Longest (layer 11). -/
import Derived.Test.YthcjfgfbeollpaaDoorKB33
import Derived.Test.YthcjfgfbeollpaaDoorKB31
import Derived.Test.YthcjfgfbeollpaaDoorKB17
namespace Go.Proofs.YthcjfgfbeollpaaDoor
namespace P11
open Go.RowKit Base Bytes P07 P08 P09 IL
open Sets (ST)
def oneP (n f:Nat):List Bool:=(noB n).set f true
theorem oneP_length (n f:Nat):(oneP n f).length=n+1:=by
 unfold oneP;rw [List.length_set,noB_length]
theorem oneP_on {n f:Nat} (hf:f≤n) (j:Nat):On (oneP n f) j↔j=f:=by
 unfold oneP
 by_cases e:j=f
 ·subst e
  rw [On.some (b:=true) (by rw [List.getElem?_set,if_pos rfl,if_pos (by rw [noB_length];omega)])]
  simp
 ·constructor
  ·intro h
   have h1:=h.lt;rw [List.length_set,noB_length] at h1;rw [On.some (b:=false) (by rw [List.getElem?_set,if_neg (fun h=>e h.symm)];simp [noB,h1])] at h
   cases h
  ·exact fun h=>absurd h e
def EndAt (s:List UInt8) (t:T) (f j:Nat):Prop:=f≤j∧j≤s.length∧P10.Mat t (seg s f j)
def rowT (s:List UInt8) (t:T) (f:Nat):List Bool:=stepB s t (oneP s.length f)
theorem rowT_ok {s:List UInt8} {t:T} {d f:Nat} (hR:RT d t) (hf:f≤s.length):(rowT s t f).length=s.length+1∧∀ j,On (rowT s t f) j↔EndAt s t f j:=by
 obtain ⟨h1,h2⟩:=step_ok s _ t (Nat.lt_succ_self _) d hR (oneP s.length f) (oneP_length _ _);refine ⟨h1,fun j=>?_⟩
 unfold rowT;rw [h2 j]
 constructor
 ·rintro ⟨i,a1,a2,a3,a4⟩
  rw [(oneP_on hf i).1 a1] at a2 a4;exact ⟨a2,a3,a4⟩
 ·rintro ⟨a2,a3,a4⟩
  exact ⟨f,(oneP_on hf f).2 rfl,a2,a3,a4⟩
def plc (X:List Bool) (k:Nat):List Int:=lst (fun j=>X.getD j false) k
def endsI (s:List UInt8) (t:T) (f:Nat):List Int:=plc (rowT s t f) (s.length+1)
theorem plc_succ (X:List Bool) (k:Nat):plc X (k+1)=if X.getD k false=true then plc X k++[(k:Int)] else plc X k:=by
 unfold plc;rw [lst]
theorem plc_length (X:List Bool):∀ k,(plc X k).length≤k
 | 0=>by simp [plc,lst]
 | k+1=>by
  rw [plc_succ];have:=plc_length X k
  split
  ·rw [List.length_append,List.length_singleton]
   omega
  ·omega
def lastI (L:List Int):Int:=(L.getLast?).getD (-1)
end P11
namespace P11
open Go.RowKit Base Bytes P07 P08 P09 P10 IL
open Sets (ST)
def allA (s:List UInt8) (t:T) (f:Int):List Int:=if rightB t=true then (if 0≤f∧f≤s.length then endsI s t f.toNat else []) else []
def allE (s:List UInt8) (t:T) (f:Int):Int:=if rightB t=true then (if 0≤f∧f≤s.length then 0 else 2) else 1
def longA (s:List UInt8) (t:T) (f:Int):Int:=lastI (allA s t f)
noncomputable def matchA (s:List UInt8) (t:T):Bool:=rightB t && pb (Mat t s)
def IsAll (s:List UInt8) (t:T) (f:Int) (w:World) (e:Ending) (w':World):Prop:=∃ v,e=.returned (.tuple #[v,.int .i64 (allE s t f)])∧IL w' v (allA s t f)∧(∀ g,v.ownBlock=some g→w.heap.size≤g)∧Keep (fun _=>False) w w'
theorem allA_in {s:List UInt8} {t:T} {f:Nat} (hr:rightB t=true) (hf:f≤s.length):allA s t f=endsI s t f:=by
 unfold allA;rw [if_pos hr,if_pos (by omega),Int.toNat_natCast]
theorem allE_in {s:List UInt8} {t:T} {f:Nat} (hr:rightB t=true) (hf:f≤s.length):allE s t f=0:=by
 unfold allE;rw [if_pos hr,if_pos (by omega)]
end P11
end Go.Proofs.YthcjfgfbeollpaaDoor

/- Two expressions in a row that is new (layer 10). -/
import Derived.Test.YtlmfbchgkjgljaaGreatKX45
import Derived.Test.YtlmfbchgkjgljaaGreatKX39
namespace Go.Proofs.YtlmfbchgkjgljaaGreat
namespace P10
open Go.RowKit Base Bytes P07 P08 P09
open Sets (ST)
theorem lie_two {W:World} {t u:T} {a b:Option Addr} {c d:Nat} (ht:Lie W (fun _=>True) a t.subs) (hu:Lie W (fun _=>True) b u.subs) (hc:t.subs.length≤c) (hd:u.subs.length≤d) :
  Lie (W.alloc (.cells (ncells t a c++ncells u b d) 27)) (fun _=>True) (some ⟨W.heap.size,0,none⟩) [t,u]:=by
 have q:=(Keep.refl (fun _=>False) W).alloc (.cells (ncells t a c++ncells u b d) 27)
 have h:=At.new W (ncells t a c++ncells u b d) 27;refine .cons W.heap.size 0 [t,u] (fun i=>if i=0 then a else b) (fun i=>if i=0 then c else d) (by simp) h.lt trivial (fun i s hs=>?_) (fun i s hs j v hv=>?_) (fun i s hs=>?_)
 ·match i,hs with
  | 0,hs=>simp at hs;subst hs;exact hc
  | 1,hs=>simp at hs;subst hs;exact hd
  | i+2,hs=>simp at hs
 ·match i,hs with
  | 0,hs =>
   simp at hs
   subst hs;have hj:j<8:=(Array.getElem?_eq_some_iff.1 hv).1;have:=h.cell (o:=j) (v:=v) (by rw [Array.getElem?_append_left (by simpa using hj)];exact hv)
   simpa using this
  | 1,hs =>
   simp at hs
   subst hs;have hj:j<8:=(Array.getElem?_eq_some_iff.1 hv).1;have:=h.cell (o:=8+j) (v:=v) (by rw [Array.getElem?_append_right (by simp)];simpa using hv)
   simpa using this
  | i+2,hs=>simp at hs
 ·match i,hs with
  | 0,hs=>simp at hs;subst hs;exact ht.keepF q
  | 1,hs=>simp at hs;subst hs;exact hu.keepF q
  | i+2,hs=>simp at hs
def two (W:World) (t u:T) (a b:Option Addr) (c d:Nat):World:=W.alloc (.cells (ncells t a c++ncells u b d) 27)
theorem two_lie {W:World} {t u:T} {a b:Option Addr} {c d:Nat} (ht:Lie W (fun _=>True) a t.subs) (hu:Lie W (fun _=>True) b u.subs) (hc:t.subs.length≤c) (hd:u.subs.length≤d) :
  Lie (two W t u a b c d) (fun _=>True) (some ⟨W.heap.size,0,none⟩) [t,u]:=lie_two ht hu hc hd
end P10
end Go.Proofs.YtlmfbchgkjgljaaGreat

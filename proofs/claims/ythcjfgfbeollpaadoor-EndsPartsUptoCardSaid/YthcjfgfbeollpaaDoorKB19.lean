/- A list of sets in a slice of its own: what append makes of it. -/
import Derived.Test.YthcjfgfbeollpaaDoorKB14
import Derived.Maps.AppendAt
import Derived.Lib.AppendZeros
namespace Go.Proofs.YthcjfgfbeollpaaDoor
namespace OL
open Go.RowKit Base Sets Bytes SetL
def flat (L:List ST):List Value:=L.flatMap fun s=>(cells s).toList
theorem flat_at:∀ (L:List ST) (i:Nat) (s:ST),L[i]?=some s→∀ j,j<4→(flat L)[i * 4+j]?=some (.int .u64 (s.w j))
 | [],i,s,h,_,_=>by simp at h
 | t::L,0,s,h,j,hj=>by
  simp at h
  subst h;have e:flat (t::L)=(cells t).toList++flat L:=rfl;rw [e,List.getElem?_append_left (by simp;omega),Nat.zero_mul,Nat.zero_add,← cells_at t j hj]
  simp
 | t::L,i+1,s,h,j,hj=>by
  have:=flat_at L i s (by simpa using h) j hj
  have e:flat (t::L)=(cells t).toList++flat L:=rfl;rw [e,List.getElem?_append_right (by simp;omega),← this]
  congr 1
  simp
  omega
def OL (w:World) (v:Value) (L:List ST):Prop:=w.ownsRow 0 24 4 v L.length (flat L)
theorem OL.nil (w:World):OL w (.slice none 0 0) []:=⟨rfl,.inl ⟨rfl,rfl⟩⟩
theorem OL.keep {S:Nat→Prop} {w w':World} {v:Value} {L:List ST} (h:OL w v L) (q:Keep S w w') (hn:∀ g,v.ownBlock=some g→¬ S g):OL w' v L:=by
 refine ⟨h.1,?_⟩
 rcases h.2 with h | ⟨g,cap,cur,rfl,hb,hg,r⟩
 ·exact .inl h
 ·refine .inr ⟨g,cap,cur,rfl,hb,?_,r⟩
  have:At w g 24 cur:=hg;exact this.keep q (hn g rfl)
theorem OL.lt {w:World} {v:Value} {L:List ST} (h:OL w v L) {g:Nat} (hg:v.ownBlock=some g):g<w.heap.size:=by
 rcases h.2 with ⟨rfl,_⟩ | ⟨g',cap,cur,rfl,_,h1,_⟩
 ·cases hg
 ·cases hg
  exact (Array.getElem?_eq_some_iff.1 h1).1
theorem OL.form {w:World} {v:Value} {L:List ST} (h:OL w v L):∃ a cap,v=.slice a L.length cap∧SL w a L∧(∀ x,a=some x→v.ownBlock=some x.block):=by
 rcases h.2 with ⟨rfl,h0⟩ | ⟨g,cap,cur,rfl,_,hg,h1,h2,h3,h4⟩
 ·refine ⟨none,0,by rw [h0],.inl (List.eq_nil_of_length_eq_zero h0),fun x hx=>by cases hx⟩
 ·have ha:At w g 24 cur:=hg
  refine ⟨_,cap,rfl,.inr ⟨g,0,rfl,ha.lt,fun i s hs j hj=>ha.cell ?_⟩,fun x hx=>by cases hx;rfl⟩
  have hi:i<L.length:=(List.getElem?_eq_some_iff.1 hs).1;have h5:(cur.toList.take (L.length * 4))[i * 4+j]?=(flat L)[i * 4+j]?:=by rw [h4]
  rw [List.getElem?_take_of_lt (by omega),flat_at L i s hs j hj] at h5
  rw [Nat.zero_add]
  simpa using h5
theorem keep_grown {w w':World} {r:Option Nat} (h:w.grownBy w' r):Keep (fun b=>r=some b) w w' :=
 ⟨h.os,h.tape,h.output,h.size,fun k hk hn=>h.block k hk (fun e=>hn e.symm)⟩
end OL
end Go.Proofs.YthcjfgfbeollpaaDoor

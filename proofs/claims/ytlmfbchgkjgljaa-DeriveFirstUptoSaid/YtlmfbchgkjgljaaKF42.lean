/- Layer 9: the code's measures of right expressions are the document's numbers; an expression in a box; Parse. -/
import Derived.Test.YtlmfbchgkjgljaaKF33
import Derived.Deep.DeepCutAuto
import Derived.Deep.CutBlock
import Derived.Test.YtlmfbchgkjgljaaKF25
import Derived.Test.YtlmfbchgkjgljaaKF23
import Derived.Test.YtlmfbchgkjgljaaKF24
import Derived.Test.YtlmfbchgkjgljaaKF27
import Derived.Test.YtlmfbchgkjgljaaKF34
import Derived.Test.YtlmfbchgkjgljaaKF26
import Derived.Test.YtlmfbchgkjgljaaKF40
import Derived.Test.YtlmfbchgkjgljaaKF31
namespace Go.Proofs.Ytlmfbchgkjgljaa
namespace P09
open Go.RowKit Base Bytes P07 P08
open Sets (ST)
structure Nd (W:World) (n:Nat) (t:T) (a:Option Addr) (c:Nat):Prop where
 cell:At W n 27 (ncells t a c)
 lie:Lie W (fun _=>True) a t.subs
 le:t.subs.length≤c
theorem Nd.keep {W W':World} {n:Nat} {t:T} {a:Option Addr} {c:Nat} (h:Nd W n t a c) (q:Keep (fun _=>False) W W'):Nd W' n t a c:=⟨h.cell.keep q (fun h=>h),h.lie.keepF q,h.le⟩
theorem Nd.new {W:World} {t:T} {a:Option Addr} {c:Nat} {ok:Nat→Prop} (hle:t.subs.length≤c) (hL:Lie W ok a t.subs):Nd (W.alloc (.cells (ncells t a c) 27)) W.heap.size t a c :=
 ⟨At.new W _ _,(hL.mono (fun _ _=>trivial)).keepF ((Keep.refl (fun _=>False) W).alloc _),hle⟩
theorem parse_right9 {F:Nat} {l:List UInt8} {t:T} (h:parse F l=.inr t) (hF:l.length+2≤F) (hl:l.length≤100000000) (w:World) :
  Calls Try.prog 23 #[P07.str l] w fun e w'=>∃ a c,e=.returned (.tuple #[nodeV t a c,.int .i64 0,.int .i64 0])∧t.subs.length≤c∧Lie w' (fun k=>w.heap.size≤k) a t.subs∧Keep (fun _=>False) w w':=by
 refine (regex_any F l hF hl w).mono ?_;rintro e w' ⟨hP,q⟩;rw [h] at hP;obtain ⟨v,rfl,a,c,rfl,hle,hL⟩:=hP;exact ⟨a,c,rfl,hle,hL,q⟩
end P09
namespace P12
open Go.RowKit Base Bytes P07 P08 P09 P10
open Sets (ST)
def one12 (F:Nat) (l:List UInt8) (p:T→Bool):Bool:=match parse F l with
 | .inr t=>p t && decide (cnt t≤60)
 | _=>false
theorem one12_is {F:Nat} {l:List UInt8} {p:T→Bool} (h:one12 F l p=true):∃ t,parse F l=.inr t∧p t=true∧cnt t≤60:=by
 unfold one12 at h
 split at h
 ·rename_i t ht
  simp only [Bool.and_eq_true,decide_eq_true_eq] at h
  exact ⟨t,ht,h.1,h.2⟩
 ·cases h
def eqO (o:Option T) (u:T):Bool:=match o with
 | some x=>sameB x u
 | none=>false
theorem eqO_is {o:Option T} {u:T} (h:eqO o u=true):o=some u:=by
 unfold eqO at h
 split at h
 ·rw [(sameB_iff _ _).1 h]
 ·cases h
theorem aw12_1:one12 7 [97,98,124,97,99] (fun t=>one12 6 [91,98,99,93] fun u=>sameB (byT 97 (simT t)) u)=true:=by kernel_rfl
theorem aw12_2:one12 4 [97,42] (fun t=>sameB (byT 97 (simT t)) t)=true:=by kernel_rfl
theorem aw12_3:one12 7 [97,123,50,125,98] (fun t=>one12 3 [98] fun u=>eqO (wordG (simT t) [97,97]) u)=true:=by kernel_rfl
theorem aw12_4:one12 7 [40,97,98,41,42] (fun t=>match wordG (simT t) [97,98,97,98] with | some x=>nullB x | none=>false)=true:=by kernel_rfl
theorem aw12_5:one12 6 [97,42,98,63] (fun t=>decide (longG (simT t) (-1) 0 [97,97,99]=some 2))=true:=by kernel_rfl
theorem aw12_6:one12 3 [97] (fun _=>true)=true:=by kernel_rfl
theorem aw12_4i:∃ t x,parse 7 [40,97,98,41,42]=.inr t∧wordG (simT t) [97,98,97,98]=some x∧nullB x=true∧cnt t≤60:=by
 obtain ⟨t,h1,h2,h3⟩:=one12_is aw12_4
 split at h2
 ·rename_i x hx
  exact ⟨t,x,h1,hx,h2,h3⟩
 ·cases h2
theorem sim_rs {t:T} (h:RT 12 t):Rs (simT t):=by
 have:=(sim_ok t 12 h).1;exact ⟨12,this.rt,this.smp⟩
theorem left_mat {t:T} (h:RT 12 t) (b:UInt8) (w:List UInt8):Mat (byT b.toNat (simT t)) w↔Mat t (b::w):=by
 rw [by_mat b _ (sim_rs h),(sim_ok t 12 h).1.mat]
theorem left_first {t:T} (h:RT 12 t) (b:UInt8):noneB (byT b.toNat (simT t))=!(firstS t).has b.toNat:=by
 obtain ⟨d,hd,-⟩:=(by_rs b.toNat _ (sim_rs h)).1;have h1:=none_mat hd;have h2:=(first_mat t 12 h).2 b
 cases hf:(firstS t).has b.toNat with
 | true =>
  obtain ⟨w,hw⟩:=h2.1 hf
  cases hn:noneB (byT b.toNat (simT t)) with
  | true=>exact absurd ((left_mat h b w).2 hw) (h1.1 hn w)
  | false=>rfl
 | false =>
  show _=true
  refine h1.2 fun w hw=>?_
  rw [h2.2 ⟨w,(left_mat h b w).1 hw⟩] at hf
  cases hf
end P12
end Go.Proofs.Ytlmfbchgkjgljaa

/- Layer 9: the code's measures of right expressions are the document's numbers; an expression in a box; Parse. -/
import Derived.Test.YtlmfbchgkjgljaaGreatKX30
import Derived.Deep.DeepCutAuto
import Derived.Deep.CutBlock
import Derived.Test.YtlmfbchgkjgljaaGreatKX25
import Derived.Test.YtlmfbchgkjgljaaGreatKX24
import Derived.Test.YtlmfbchgkjgljaaGreatKX26
import Derived.Test.YtlmfbchgkjgljaaGreatKX31
import Derived.Test.YtlmfbchgkjgljaaGreatKX37
import Derived.Test.YtlmfbchgkjgljaaGreatKX28
namespace Go.Proofs.YtlmfbchgkjgljaaGreat
namespace P09
open Go.RowKit Base Bytes P07 P08
open Sets (ST)
structure Nd (W:World) (n:Nat) (t:T) (a:Option Addr) (c:Nat):Prop where
 cell:At W n 27 (ncells t a c)
 lie:Lie W (fun _=>True) a t.subs
 le:t.subs.length≤c
theorem Nd.keep {W W':World} {n:Nat} {t:T} {a:Option Addr} {c:Nat} (h:Nd W n t a c) (q:Keep (fun _=>False) W W'):Nd W' n t a c:=⟨h.cell.keep q (fun h=>h),h.lie.keepF q,h.le⟩
theorem Nd.new {W:World} {t:T} {a:Option Addr} {c:Nat} {ok:Nat→Prop} (hle:t.subs.length≤c) (hL:Lie W ok a t.subs):Nd (W.alloc (.cells (ncells t a c) 27)) W.heap.size t a c :=
 ⟨At.new W _ _,(hL.mono (fun _ _=>trivial)).keepF ((Keep.refl (fun _=>False) W).alloc _),hle⟩
theorem parse_right9 {F:Nat} {l:List UInt8} {t:T} (h:parse F l=.inr t) (hF:l.length+2≤F) (hl:l.length≤100000000) (w:World) :
  Calls Tryz.prog 42 #[P07.str l] w fun e w'=>∃ a c,e=.returned (.tuple #[nodeV t a c,.int .i64 0,.int .i64 0])∧t.subs.length≤c∧Lie w' (fun k=>w.heap.size≤k) a t.subs∧Keep (fun _=>False) w w':=by
 refine (regex_any F l hF hl w).mono ?_;rintro e w' ⟨hP,q⟩;rw [h] at hP;obtain ⟨v,rfl,a,c,rfl,hle,hL⟩:=hP;exact ⟨a,c,rfl,hle,hL,q⟩
end P09
namespace P12
open Go.RowKit Base Bytes P07 P08 P09 P10
open Sets (ST)
def one12 (F:Nat) (l:List UInt8) (p:T→Bool):Bool:=match parse F l with
 | .inr t=>p t && decide (cnt t≤60)
 | _=>false
theorem one12_is {F:Nat} {l:List UInt8} {p:T→Bool} (h:one12 F l p=true):∃ t,parse F l=.inr t∧p t=true∧cnt t≤60:=by
 unfold one12 at h
 split at h
 ·rename_i t ht
  simp only [Bool.and_eq_true,decide_eq_true_eq] at h
  exact ⟨t,ht,h.1,h.2⟩
 ·cases h
def eqO (o:Option T) (u:T):Bool:=match o with
 | some x=>sameB x u
 | none=>false
theorem eqO_is {o:Option T} {u:T} (h:eqO o u=true):o=some u:=by
 unfold eqO at h
 split at h
 ·rw [(sameB_iff _ _).1 h]
 ·cases h
theorem aw12_1:one12 7 [97,98,124,97,99] (fun t=>one12 6 [91,98,99,93] fun u=>sameB (byT 97 (simT t)) u)=true:=by kernel_rfl
theorem aw12_2:one12 4 [97,42] (fun t=>sameB (byT 97 (simT t)) t)=true:=by kernel_rfl
theorem aw12_3:one12 7 [97,123,50,125,98] (fun t=>one12 3 [98] fun u=>eqO (wordG (simT t) [97,97]) u)=true:=by kernel_rfl
theorem aw12_4:one12 7 [40,97,98,41,42] (fun t=>match wordG (simT t) [97,98,97,98] with | some x=>nullB x | none=>false)=true:=by kernel_rfl
theorem aw12_5:one12 6 [97,42,98,63] (fun t=>decide (longG (simT t) (-1) 0 [97,97,99]=some 2))=true:=by kernel_rfl
theorem aw12_6:one12 3 [97] (fun _=>true)=true:=by kernel_rfl
theorem aw12_4i:∃ t x,parse 7 [40,97,98,41,42]=.inr t∧wordG (simT t) [97,98,97,98]=some x∧nullB x=true∧cnt t≤60:=by
 obtain ⟨t,h1,h2,h3⟩:=one12_is aw12_4
 split at h2
 ·rename_i x hx
  exact ⟨t,x,h1,hx,h2,h3⟩
 ·cases h2
def alt2 (a b:T):T:=.nd 4 ST.none 0 0 [a,b]
theorem alt2_mat (a b:T) (w:List UInt8):Mat (alt2 a b) w↔Mat a w∨Mat b w:=by
 unfold alt2;rw [mat_4,malt_cons,malt_cons]
 constructor
 ·rintro (h | h | h)
  ·exact .inl h
  ·exact .inr h
  ·exact (malt_nil _ h).elim
 ·rintro (h | h)
  ·exact .inl h
  ·exact .inr (.inl h)
theorem alt2_rt {a b:T} (ha:Rs a) (hb:Rs b):∃ d,RT d (alt2 a b):=by
 obtain ⟨d,ha,-⟩:=ha;obtain ⟨e,hb,-⟩:=hb;have h1:∀ u:T,RT (max d e) u→(if rnd 4 u.kind then 1≤max d e+1∧RT (max d e+1 - 1) u else RT (max d e+1) u):=fun u hu=>by
  split
  ·exact ⟨by omega,hu⟩
  ·exact RT_mono u _ _ hu (by omega)
 refine ⟨max d e+1,?_⟩;unfold alt2;rw [RT];refine ⟨.inr (.inr (.inl ⟨.inr rfl,rfl,rfl,rfl,Nat.le_refl 2⟩)),ST.none_ok,?_⟩;rw [RL,RL,RL];exact ⟨h1 a (RT_mono a _ _ ha (Nat.le_max_left d e)),h1 b (RT_mono b _ _ hb (Nat.le_max_right d e)),trivial⟩
theorem alt2_sub {a b:T} {d:Nat} (h:RT d (alt2 a b)):RT d a∧RT d b:=by
 unfold alt2 at h;obtain ⟨-,-,h⟩:=RT.bare h;obtain ⟨h1,h⟩:=RL_cons h;obtain ⟨h2,-⟩:=RL_cons h
 constructor
 ·split at h1
  ·exact RT_mono a _ _ h1.2 (by omega)
  ·exact h1
 ·split at h2
  ·exact RT_mono b _ _ h2.2 (by omega)
  ·exact h2
theorem sim_rs {t:T} (h:RT 12 t):Rs (simT t):=by
 have:=(sim_ok t 12 h).1;exact ⟨12,this.rt,this.smp⟩
theorem left_mat {t:T} (h:RT 12 t) (b:UInt8) (w:List UInt8):Mat (byT b.toNat (simT t)) w↔Mat t (b::w):=by
 rw [by_mat b _ (sim_rs h),(sim_ok t 12 h).1.mat]
theorem left_sim {t:T} (h:RT 12 t) (b:Nat):byT b (simT (simT t))=byT b (simT t):=by
 have:=(sim_ok t 12 h).1;rw [sim_fix _ 12 this.rt this.smp]
theorem left_alt {a b:T} (h:RT 12 (alt2 a b)) (c:UInt8) :
  noneB (byT c.toNat (simT (alt2 a b)))=(noneB (byT c.toNat (simT a)) && noneB (byT c.toNat (simT b)))∧nullB (byT c.toNat (simT (alt2 a b)))=(nullB (byT c.toNat (simT a)) || nullB (byT c.toNat (simT b)))∧firstS (byT c.toNat (simT (alt2 a b)))=firstS (alt2 (byT c.toNat (simT a)) (byT c.toNat (simT b))):=by
 obtain ⟨ha,hb⟩:=alt2_sub h;have ra:=(by_rs c.toNat _ (sim_rs ha)).1;have rb:=(by_rs c.toNat _ (sim_rs hb)).1;obtain ⟨e,he⟩:=alt2_rt ra rb;obtain ⟨dz,hz,-⟩:=(by_rs c.toNat _ (sim_rs h)).1;obtain ⟨dx,hx,-⟩:=ra;obtain ⟨dw,hw,-⟩:=rb;have hm:∀ w,Mat (byT c.toNat (simT (alt2 a b))) w↔Mat (byT c.toNat (simT a)) w∨Mat (byT c.toNat (simT b)) w:=fun w=>by
  rw [left_mat h,left_mat ha,left_mat hb,alt2_mat]
 refine ⟨?_,?_,first_same he hz fun w=>by rw [hm,alt2_mat]⟩
 ·rw [Bool.eq_iff_iff,Bool.and_eq_true,none_mat hz,none_mat hx,none_mat hw]
  simp only [hm]
  exact ⟨fun h=>⟨fun w hw=>h w (.inl hw),fun w hw=>h w (.inr hw)⟩,fun h w hw=>by rcases hw with hw | hw;exact h.1 w hw;exact h.2 w hw⟩
 ·rw [Bool.eq_iff_iff,Bool.or_eq_true,null_mat hz,null_mat hx,null_mat hw,hm]
end P12
end Go.Proofs.YtlmfbchgkjgljaaGreat

/- Layer 12: DeriveLongest. -/
import Derived.Test.YtlmfbchgkjgljaaGreatKZ53
import Derived.Test.YtlmfbchgkjgljaaGreatKZ25
import Derived.Test.YtlmfbchgkjgljaaGreatKZ41
import Derived.Test.YtlmfbchgkjgljaaGreatKZ51
import Derived.Test.YtlmfbchgkjgljaaGreatKZ43
import Derived.Test.YtlmfbchgkjgljaaGreatKZ08
import Derived.Test.YtlmfbchgkjgljaaGreatRows
import Derived.JoinedCond
set_option maxRecDepth 100000
set_option maxHeartbeats 32000000
open Go.Lib (hid)
namespace Go.Proofs.YtlmfbchgkjgljaaGreat
namespace P12
open Go.RowKit Base Bytes P07 P08 P09 P10
open Sets (ST)
theorem law_longest (t:T) (a:Option Addr) (c:Nat) (w:World) (hta:Lie w (fun _=>True) a t.subs) (hcl:t.subs.length≤c) (ht:cnt t≤1000000000) (hst:SOk t) (s:List UInt8) (f:Int) :
  Calls Tryz.prog 4 #[nodeV t a c,.string ⟨s.toArray⟩,.int .i64 f] w fun e w'=>e=.returned (.bool true)∧Keep (fun _=>False) w w':=by
 have hsz:=P07.size_str s;have H0:=hid (And.intro (Nd.new hcl hta) ((Keep.refl (fun _=>False) w).alloc (.cells (ncells t a c) 27)))
 have HH:=hid (And.intro ht hst);clear hta hcl hst ht
 go_enter Tryz.func4,Tryz.ntmps4
 go_upto_region 1 with fail;generalize (w.alloc (.cells (ncells t a c) 27))=W0 at *;generalize w.heap.size=n1 at *;go_wp2_with fail;refine (awake12 W0).mono ?_;rintro e w1 ⟨rfl,q1⟩;have B1:=hid (And.intro (H0.out.1.keep q1) (H0.out.2.trans q1));clear q1;obtain ⟨d0,d1,d2,d3,d4,d5,d6,d7⟩:=(cells8 B1.out.1.cell).1;go_wp2_with fail;refine (few12_any t HH.out.2 HH.out.1 s a c w1 B1.out.1.lie).mono ?_;rintro e w2 ⟨rfl,q2⟩;have B2:=hid (And.intro (B1.out.1.keep q2) (B1.out.2.trans q2));clear q2 d0 d1 d2 d3 d4 d5 d6 d7;obtain ⟨d0,d1,d2,d3,d4,d5,d6,d7⟩:=(cells8 B2.out.1.cell).1
 cases hf:fewD s t with
 | false =>
  clear d0 d1 d2 d3 d4 d5 d6 d7;go_wp2_with fail;refine (awake12 _).mono ?_;rintro e w99 ⟨rfl,q99⟩;have Q99:=hid (B2.out.2.trans q99);clear q99;go_wp2_with fail;go_ret;exact ⟨rfl,Q99.out⟩
 | true =>
  unfold fewD at hf
  simp only [Bool.and_eq_true,decide_eq_true_eq,Bool.or_eq_true,Bool.not_eq_true'] at hf
  have HF:=hid hf;clear hf;have HRi:=hid (fun W hL=>fright_any t HH.out.1 a c W hL)
  cases hr:rightB t with
  | false =>
   have hnR:¬ RT 12 t:=fun h=>by
    rw [(rightB_iff HH.out.2).2 h] at hr
    cases hr
   have HLo:=hid (clong_wrong s f t HH.out.2 hnR a c (fun _=>True) w2 B2.out.1.lie)
   rw [hr] at HRi;clear hnR hr;go_wp2_with fail;refine HLo.out.mono ?_;rintro e w3 ⟨rfl,q3⟩;have B3:=hid (And.intro (B2.out.1.keep q3) (B2.out.2.trans q3));clear q3 d0 d1 d2 d3 d4 d5 d6 d7;obtain ⟨d0,d1,d2,d3,d4,d5,d6,d7⟩:=(cells8 B3.out.1.cell).1;go_wp2_with fail;refine (HRi.out w3 B3.out.1.lie).mono ?_;rintro e w4 ⟨rfl,q4⟩;have Q4:=hid (B3.out.2.trans q4);clear q4 d0 d1 d2 d3 d4 d5 d6 d7;go_wp2_with fail;go_ret;exact ⟨rfl,Q4.out⟩
  | true =>
   have hR:RT 12 t:=(rightB_iff HH.out.2).1 hr;have hc60:cnt t≤60:=by
    rcases HF.out.2.2 with h | h
    ·rw [hr] at h;cases h
    ·exact h
   rw [hr] at HRi;have HA:=hid (And.intro hR hc60);clear hr hR hc60
   by_cases hf:0≤f∧f≤s.length
   case neg =>
    have HLo:=hid (clong_range s t HA.out.1 (by have:=HA.out.2;omega) f hf a c (fun _=>True) w2 B2.out.1.lie B2.out.1.le)
    have hc:f<0∨(0≤f∧(s.length:Int)<f):=by omega
    clear hf
    rcases hc with h | ⟨h0,h⟩
    all_goals
     go_wp2_with fail;refine HLo.out.mono ?_;rintro e w3 ⟨rfl,q3⟩;have B3:=hid (And.intro (B2.out.1.keep q3) (B2.out.2.trans q3));clear q3 d0 d1 d2 d3 d4 d5 d6 d7;obtain ⟨d0,d1,d2,d3,d4,d5,d6,d7⟩:=(cells8 B3.out.1.cell).1;go_wp2_with fail;refine (HRi.out w3 B3.out.1.lie).mono ?_;rintro e w4 ⟨rfl,q4⟩;have Q4:=hid (B3.out.2.trans q4);clear q4 d0 d1 d2 d3 d4 d5 d6 d7;go_wp2_with fail;go_ret;exact ⟨rfl,Q4.out⟩
   obtain ⟨F,rfl⟩:∃ F:Nat,f=F:=⟨f.toNat,by omega⟩
   have hF:F≤s.length:=by omega
   have HFF:=hid hF;have h1:¬ (F:Int)<0:=by omega
   have h2:¬ (s.length:Int)<F:=by omega
   have HLa:=hid (fun W (hL:Lie W (fun _=>True) a t.subs)=>P11.flong_any t 12 HA.out.1 s (by have:=HF.out.2.1;omega) F hF a c W hL)
   clear hf hF
   cases ho:longG (simT t) (-1) F (s.drop F) with
   | none =>
    have HLo:=hid (show Calls Tryz.prog 16 #[nodeV t a c,str s,.int .i64 (F:Int)] w2 (fun e w'=>e=.returned (.tuple #[.int .i64 0,.int .i64 11])∧Keep (fun _=>False) w2 w') from clong_right s (by have:=HF.out.2.1;omega) t HA.out.1 (by have:=HA.out.2;omega) F HFF.out (none) ho a c (fun _=>True) w2 B2.out.1.lie B2.out.1.le)
    have HFl:=hid (fun W (hL:Lie W (fun _=>True) a t.subs)=>(show Calls Tryz.prog 17 #[nodeV t a c,str s,.int .i64 (F:Int)] W (fun e w'=>e=.returned (.tuple #[.int .i64 0,.bool false])∧Keep (fun _=>False) W w') from flong12_any t HA.out.1 (by have:=HA.out.2;omega) s (by have:=HF.out.2.1;omega) F HFF.out (none) ho a c W hL B2.out.1.le))
    clear ho;go_wp2_with fail;refine HLo.out.mono ?_;rintro e w3 ⟨rfl,q3⟩;have B3:=hid (And.intro (B2.out.1.keep q3) (B2.out.2.trans q3));clear q3 d0 d1 d2 d3 d4 d5 d6 d7;obtain ⟨d0,d1,d2,d3,d4,d5,d6,d7⟩:=(cells8 B3.out.1.cell).1;go_wp2_with fail;refine (HRi.out w3 B3.out.1.lie).mono ?_;rintro e w4 ⟨rfl,q4⟩;have B4:=hid (And.intro (B3.out.1.keep q4) (B3.out.2.trans q4));clear q4 d0 d1 d2 d3 d4 d5 d6 d7;obtain ⟨d0,d1,d2,d3,d4,d5,d6,d7⟩:=(cells8 B4.out.1.cell).1;go_wp2_with fail;refine (HFl.out w4 B4.out.1.lie).mono ?_;rintro e w5 ⟨rfl,q5⟩;have B5:=hid (And.intro (B4.out.1.keep q5) (B4.out.2.trans q5));clear q5 d0 d1 d2 d3 d4 d5 d6 d7;go_wp2_with fail;go_ret;exact ⟨rfl,B5.out.2⟩
   | some x =>
    have HLo:=hid (show Calls Tryz.prog 16 #[nodeV t a c,str s,.int .i64 (F:Int)] w2 (fun e w'=>e=.returned (.tuple #[.int .i64 x,.int .i64 0])∧Keep (fun _=>False) w2 w') from clong_right s (by have:=HF.out.2.1;omega) t HA.out.1 (by have:=HA.out.2;omega) F HFF.out (some x) ho a c (fun _=>True) w2 B2.out.1.lie B2.out.1.le)
    have HFl:=hid (fun W (hL:Lie W (fun _=>True) a t.subs)=>(show Calls Tryz.prog 17 #[nodeV t a c,str s,.int .i64 (F:Int)] W (fun e w'=>e=.returned (.tuple #[.int .i64 x,.bool true])∧Keep (fun _=>False) W w') from flong12_any t HA.out.1 (by have:=HA.out.2;omega) s (by have:=HF.out.2.1;omega) F HFF.out (some x) ho a c W hL B2.out.1.le))
    have hlast:=long_last HA.out.1 HFF.out ho;rw [← hlast] at HLa;clear hlast;clear ho;go_wp2_with fail;refine HLo.out.mono ?_;rintro e w3 ⟨rfl,q3⟩;have B3:=hid (And.intro (B2.out.1.keep q3) (B2.out.2.trans q3));clear q3 d0 d1 d2 d3 d4 d5 d6 d7;obtain ⟨d0,d1,d2,d3,d4,d5,d6,d7⟩:=(cells8 B3.out.1.cell).1;go_wp2_with fail;refine (HRi.out w3 B3.out.1.lie).mono ?_;rintro e w4 ⟨rfl,q4⟩;have B4:=hid (And.intro (B3.out.1.keep q4) (B3.out.2.trans q4));clear q4 d0 d1 d2 d3 d4 d5 d6 d7;obtain ⟨d0,d1,d2,d3,d4,d5,d6,d7⟩:=(cells8 B4.out.1.cell).1;go_wp2_with fail;refine (HFl.out w4 B4.out.1.lie).mono ?_;rintro e w5 ⟨rfl,q5⟩;have B5:=hid (And.intro (B4.out.1.keep q5) (B4.out.2.trans q5));clear q5 d0 d1 d2 d3 d4 d5 d6 d7;obtain ⟨d0,d1,d2,d3,d4,d5,d6,d7⟩:=(cells8 B5.out.1.cell).1;go_wp2_with fail;refine (HLa.out w5 B5.out.1.lie).mono ?_;rintro e w6 ⟨rfl,q6⟩;have Q6:=hid (B5.out.2.trans q6);clear q6 d0 d1 d2 d3 d4 d5 d6 d7;go_wp2_with fail;go_ret;exact ⟨rfl,Q6.out⟩
end P12
namespace DeriveLongest
open Go.RowKit Base P08 P11 P12
open Go.ChangeShapes Go.WideShapes Go.ChangeAt
theorem walk {H:Type} {enc:TypeId × Value→H} (v0 v1 v2:Value) {d0 d1 d2:DataW H} {p0 p1 p2:List MemPlace} (W:World)
  (k0:Value.okWide Tryz.prog W .any 0 27 v0) (k1:Value.okWide Tryz.prog W .any 0 9 v1) (k2:Value.okWide Tryz.prog W .any 0 3 v2)
  (h0:DataW.Trod enc Tryz.prog W 0 (fun _=>true) true 27 v0 d0 p0) (h1:DataW.Trod enc Tryz.prog W 0 (fun _=>true) true 9 v1 d1 p1) (h2:DataW.Trod enc Tryz.prog W 0 (fun _=>true) true 3 v2 d2 p2)
  (hk:Rows.uptoSmall H [d0,d1,d2]=true) :
  Calls Tryz.prog 4 #[v0,v1,v2] W fun e w'=>e=.returned (.bool true)∧Below W.heap.size W w':=by
 have hb:=of_decide_eq_true hk;obtain ⟨t0,a0,c0,rfl,hc0,hL0,hn0,hs0⟩:=node_arg k0 h0;obtain ⟨l1,rfl,rfl,-⟩:=str_arg11 k1 h1;obtain ⟨f2,rfl,-,-⟩:=int_arg Tryz.underlying3 k2 h2
 simp only [Rows.uptoBulkAll,Rows.uptoBulk] at hb
 exact (law_longest t0 a0 c0 W hL0 hc0 (by omega) hs0 l1 f2).mono fun e w' ⟨he,q⟩=>⟨he,q.below (Nat.le_refl _) (fun _ _ h=>h)⟩
end DeriveLongest
namespace DeriveLongest
open Go.ChangeShapes Go.WideShapes Go.ChangeAt Go.RowKit
set_option linter.unusedVariables false
theorem own:ownKnob Tryz.prog.godebug=none:=by kernel_rfl
theorem laidOut:laidOutB Tryz.prog=true:=by kernel_rfl
theorem contract (H:Type) (enc:TypeId × Value→H) (W:World) (base:Nat) (args:Array Value) (ds gs:List (DataW H)) (before:List MemPlace)
  (hval0:∀ (j:Nat) t v,Tryz.f4.params[j]?=some t→args[j]?=some v→Value.okWide Tryz.prog W .any base t v)
  (hW:DataW.Whole enc Tryz.prog Tryz.f4.params.toList Rows.deriveLongestSpec.vars false W args.toList ds gs before) (hk:Rows.uptoSmall H (ds++gs)=true) :
  Calls Tryz.prog 4 args W fun e W'=>∃ v,e=.returned v∧Rows.deriveLongestSpec.post enc Tryz.prog Tryz.f4 false true false false W args v W':=by
 have hval:∀ (j:Nat) t v,Tryz.f4.params[j]?=some t→args[j]?=some v→Value.okWide Tryz.prog W .any base t v:=hval0;have hW':=hW;obtain ⟨p,q,hA0,hV,rfl,hfz,hnd⟩:=hW;have hA:DataW.TrodAll enc Tryz.prog W 0 (fun _=>true) true Tryz.f4.params.toList args.toList ds p:=hA0
 rw [Tryz.params4] at hA hval;obtain ⟨v0,vs0,d0,ds0,p0,q0,hargs,rfl,rfl,h0,r0⟩:=trodAll_cons hA;obtain ⟨v1,vs1,d1,ds1,p1,q1,rfl,rfl,rfl,h1,r1⟩:=trodAll_cons r0;obtain ⟨v2,vs2,d2,ds2,p2,q2,rfl,rfl,rfl,h2,r2⟩:=trodAll_cons r1;obtain ⟨rfl,rfl,rfl⟩:=trodAll_nil r2;obtain rfl:args=#[v0,v1,v2]:=by cases args;simp_all
 obtain ⟨rfl,rfl⟩:=trodVars_none hV;have lt0:∀ x ∈ p0,x.block<W.heap.size:=by obtain ⟨m,hm⟩:=h0;exact DataW.trod_lt m _ _ _ hm
 have lt1:∀ x ∈ p1,x.block<W.heap.size:=by obtain ⟨m,hm⟩:=h1;exact DataW.trod_lt m _ _ _ hm
 have lt2:∀ x ∈ p2,x.block<W.heap.size:=by obtain ⟨m,hm⟩:=h2;exact DataW.trod_lt m _ _ _ hm
 have hk1:Rows.uptoSmall H [d0,d1,d2]=true:=hk;refine (walk v0 v1 v2 W (hval 0 27 v0 rfl rfl) (hval 1 9 v1 rfl rfl) (hval 2 3 v2 rfl rfl) h0 h1 h2 hk1).mono fun e W' ⟨he,bel⟩=>?_
 subst he;exact ⟨_,rfl,_,_,_,[],_,[],hW',trodAll_mk1 (shut_bool Tryz.underlying4 _),(trodAll_cons_mk (Below.trod laidOut (by kernel_rfl) (of_decide_eq_true (by kernel_rfl)) h0 bel lt0) (trodAll_cons_mk (Below.trod laidOut (by kernel_rfl) (of_decide_eq_true (by kernel_rfl)) h1 bel lt1) (trodAll_cons_mk (Below.trod laidOut (by kernel_rfl) (of_decide_eq_true (by kernel_rfl)) h2 bel lt2) trodAll_mk0))),rfl,bel.frame _,fun h=>by cases h⟩
theorem lifted (os:Os) (started:os.Started) (H:Type) (enc:TypeId × Value→H) (F:Stop.Interp) :
  ReturnsInHanded {} Tryz.checked os 4 .any ((Rows.OpenSpec.upto Rows.deriveLongestSpec).pre6 enc Tryz.prog Tryz.f4 Rows.deriveLongestUptoRow.domain false) (((Rows.OpenSpec.upto Rows.deriveLongestSpec).at F).post enc Tryz.prog Tryz.f4 false true false false):=by
 refine returnsInHanded_of_cond (C:=Tryz.checked) (s:=Rows.OpenSpec.upto Rows.deriveLongestSpec) (k:=Rows.uptoSmall) rfl own started (by kernel_rfl) Tryz.func4
  (OpenSpec.witness (enc:=enc) (C:=Tryz.checked) (s:=Rows.OpenSpec.upto Rows.deriveLongestSpec) (k:=Rows.uptoSmall) rfl false ⟨#[],#[.agg #[.int .i64 0,.int .u64 0,.int .u64 0,.int .u64 0,.int .u64 0,.int .i64 0,.int .i64 0,.slice none 0 0],.string ⟨#[]⟩,.int .i64 0],[]⟩ 8 (by kernel_rfl) (by kernel_rfl) (by kernel_rfl)
   (x:=([.agg [.lit (.int .i64 0),.agg [.lit (.int .u64 0),.lit (.int .u64 0),.lit (.int .u64 0),.lit (.int .u64 0)],.lit (.int .i64 0),.lit (.int .i64 0),.nil],.lit (.string []),.lit (.int .i64 0)],[],[])) (by kernel_rfl) rfl (by kernel_rfl)) ?_
 intro W base args ds gs before hval hW _ hk _;exact contract H enc W base args ds gs before hval hW hk
theorem over:Rows.deriveLongestUptoRow.holds Tryz.pinned (Rows.OpenSpec.upto Rows.deriveLongestSpec) :=
 OpenClaim.holds_of_cond 4 Tryz.f4 rfl rfl rfl rfl rfl rfl rfl ⟨rfl,rfl,rfl,rfl,rfl⟩ rfl rfl rfl rfl rfl (by kernel_rfl) Tryz.func4 (by kernel_rfl)
  (of_decide_eq_true (by kernel_rfl)) (by unfold Func.isWrapper;first | (rw [if_pos (by decide +kernel)];kernel_rfl) | (rw [if_neg (by decide +kernel)];exact ⟨rfl,rfl⟩))
  (fun os started H enc _ F=>lifted os started H enc F)
theorem proved:Rows.DeriveLongestUptoSaid:=over
#print axioms proved
end DeriveLongest
end Go.Proofs.YtlmfbchgkjgljaaGreat

/- Layer 12: DeriveFirst. -/
import Derived.Test.YtlmfbchgkjgljaaKF53
import Derived.Test.YtlmfbchgkjgljaaKF28
import Derived.Test.YtlmfbchgkjgljaaKF25
import Derived.Test.YtlmfbchgkjgljaaKF33
import Derived.Test.YtlmfbchgkjgljaaKF44
import Derived.Test.YtlmfbchgkjgljaaRows
import Derived.JoinedCond
set_option maxRecDepth 100000
set_option maxHeartbeats 32000000
open Go.Lib (hid)
namespace Go.Proofs.Ytlmfbchgkjgljaa
namespace P12
open Go.RowKit Base Bytes P07 P08 P09 P10
open Sets (ST)
theorem bit_zero (x j:Nat) (hx:x<18446744073709551616):(bits BinOp.and IntKind.u64 ((x:Int) / 2 ^ j) 1 == 0)=!x.testBit j:=by
 have h:=bit_and x j hx;have hd:x / 2 ^ j<18446744073709551616:=Nat.lt_of_le_of_lt (Nat.div_le_self _ _) hx;have:=bits_and_u64_nat (x / 2 ^ j) 1 hd (by decide)
 rw [shr_nat,show ((1:Int))=((1:Nat):Int) from rfl,this,Nat.and_one_is_mod,Nat.testBit_eq_decide_div_mod_eq]
 generalize x / 2 ^ j=y
 rcases Nat.mod_two_eq_zero_or_one y with h | h <;> rw [h] <;> rfl
theorem set_at {W:World} {n:Nat} {s:ST} {ty:TypeId} (h:At W n ty #[.int .u64 s.x0,.int .u64 s.x1,.int .u64 s.x2,.int .u64 s.x3]) (i:Nat) (hi:i<4):W.cell? ⟨n,i,none⟩=some (.int .u64 (s.w i)):=by
 match i,hi with
 | 0,_=>exact h.cell (o:=0) rfl
 | 1,_=>exact h.cell (o:=1) rfl
 | 2,_=>exact h.cell (o:=2) rfl
 | 3,_=>exact h.cell (o:=3) rfl
theorem law_first (t:T) (a:Option Addr) (c:Nat) (w:World) (hta:Lie w (fun _=>True) a t.subs) (hcl:t.subs.length≤c) (ht:cnt t≤1000000000) (hst:SOk t) (b:Nat) (hb:b<256) :
  Calls Try.prog 3 #[nodeV t a c,.int .u8 (b:Int)] w fun e w'=>e=.returned (.bool true)∧Keep (fun _=>False) w w':=by
 have HBB:=hid hb;have hb0:(0:Int)≤b:=by omega
 have hb1:(b:Int)≤255:=by omega
 clear hb;have H0:=hid (And.intro (Nd.new hcl hta) ((Keep.refl (fun _=>False) w).alloc (.cells (ncells t a c) 27)))
 have HH:=hid (And.intro ht hst);clear hta hcl hst ht
 go_enter Try.func3,Try.ntmps3
 go_upto_region 1 with fail;generalize (w.alloc (.cells (ncells t a c) 27))=W0 at *;generalize w.heap.size=n1 at *;go_wp2_with fail;refine (awake12 W0).mono ?_;rintro e w1 ⟨rfl,q1⟩;have B1:=hid (And.intro (H0.out.1.keep q1) (H0.out.2.trans q1));clear q1;obtain ⟨d0,d1,d2,d3,d4,d5,d6,d7⟩:=(cells8 B1.out.1.cell).1;go_wp2_with fail;refine (few12_any t HH.out.2 HH.out.1 [] a c w1 B1.out.1.lie).mono ?_;rintro e w2 ⟨rfl,q2⟩;have B2:=hid (And.intro (B1.out.1.keep q2) (B1.out.2.trans q2));clear q2 d0 d1 d2 d3 d4 d5 d6 d7;obtain ⟨d0,d1,d2,d3,d4,d5,d6,d7⟩:=(cells8 B2.out.1.cell).1
 cases hf:fewD [] t with
 | false =>
  clear d0 d1 d2 d3 d4 d5 d6 d7;go_wp2_with fail;refine (awake12 _).mono ?_;rintro e w99 ⟨rfl,q99⟩;have Q99:=hid (B2.out.2.trans q99);clear q99;go_wp2_with fail;go_ret;exact ⟨rfl,Q99.out⟩
 | true =>
  unfold fewD at hf
  simp only [Bool.and_eq_true,decide_eq_true_eq,Bool.or_eq_true,Bool.not_eq_true'] at hf
  have HF:=hid hf;clear hf;have HRi:=hid (fright_any t HH.out.1 a c w2 B2.out.1.lie)
  cases hr:rightB t with
  | false =>
   rw [hr] at HRi;clear hr;go_wp2_with fail;refine HRi.out.mono ?_;rintro e w3 ⟨rfl,q3⟩;have B3:=hid (B2.out.2.trans q3);clear q3;clear d0 d1 d2 d3 d4 d5 d6 d7;go_wp2_with fail;refine (awake12 _).mono ?_;rintro e w99 ⟨rfl,q99⟩;have Q99:=hid (B3.out.trans q99);clear q99;go_wp2_with fail;go_ret;exact ⟨rfl,Q99.out⟩
  | true =>
   have hR:RT 12 t:=(rightB_iff HH.out.2).1 hr;have hc60:cnt t≤60:=by
    rcases HF.out.2.2 with h | h
    ·rw [hr] at h;cases h
    ·exact h
   rw [hr] at HRi;have hbn:(UInt8.ofNat b).toNat=b:=UInt8.toNat_ofNat_of_lt' (by simpa using HBB.out)
   have hlf:=left_first hR (UInt8.ofNat b);rw [hbn] at hlf;have hFo:=(first_mat t 12 hR).1;have HBx:=hid (fun W (hL:Lie W (fun _=>True) a t.subs)=>cby_right b HBB.out t hR hc60 a c (fun _=>True) W hL B2.out.1.le)
   have HFi:=hid (fun W (hL:Lie W (fun _=>True) a t.subs)=>ffirst_all _ t (Nat.lt_succ_self _) (by omega) 12 hR a c W hL)
   obtain ⟨d,hd,-⟩:=(by_rs b _ (sim_rs hR)).1;generalize byT b (simT t)=X at *;have hno:=fun xa xc W (hL:Lie W (fun _=>True) xa X.subs)=>fnone_any X d hd xa xc W hL
   generalize firstS t=F at *;obtain ⟨h,hh⟩:∃ h,F.has b=h:=⟨_,rfl⟩;have hx:(bits BinOp.and IntKind.u64 ((F.w (b / 64):Int) / 2 ^ (b % 64)) 1 == 0)=!h:=by
    rw [bit_zero _ (b % 64) (hFo.w (b / 64)),← hh]
    rfl
   rw [hlf,hh] at hno;have HNo:=hid hno;clear hr hR hc60 hbn hlf hFo hd hno hh;go_wp2_with fail;refine HRi.out.mono ?_;rintro e w3 ⟨rfl,q3⟩;have B3:=hid (And.intro (B2.out.1.keep q3) (B2.out.2.trans q3));clear q3 d0 d1 d2 d3 d4 d5 d6 d7;obtain ⟨d0,d1,d2,d3,d4,d5,d6,d7⟩:=(cells8 B3.out.1.cell).1;go_wp2_with fail;refine (HBx.out w3 B3.out.1.lie).mono ?_;rintro e w40 ⟨⟨v,rfl,xa,xc,rfl,hle,hlie⟩,q0⟩;have qq:=q0.alloc (.cells (ncells X xa xc) 27);have I4:=hid (And.intro (B3.out.1.keep qq) (And.intro (Nd.new hle hlie) (B3.out.2.trans qq)));clear hle hlie q0 qq d0 d1 d2 d3 d4 d5 d6 d7;go_upto_region 4 with fail
   change Code.wp _ _ _ _ (w40.alloc (.cells (ncells X xa xc) 27))
   generalize (w40.alloc (.cells (ncells X xa xc) 27))=w4 at *;generalize w40.heap.size=n2 at *;obtain ⟨d0,d1,d2,d3,d4,d5,d6,d7⟩:=(cells8 (I4.out.1).cell).1;go_wp2_with fail;refine (HFi.out w4 I4.out.1.lie).mono ?_;rintro e w50 ⟨rfl,q0⟩;have qq:=q0.alloc (.cells #[.int .u64 F.x0,.int .u64 F.x1,.int .u64 F.x2,.int .u64 F.x3] 24);have ha:=At.new w50 #[.int .u64 F.x0,.int .u64 F.x1,.int .u64 F.x2,.int .u64 F.x3] 24;have I5:=hid (And.intro (I4.out.2.1.keep qq) (And.intro ha (I4.out.2.2.trans qq)));clear q0 qq ha d0 d1 d2 d3 d4 d5 d6 d7;go_upto_region 5 with fail
   change Code.wp _ _ _ _ (w50.alloc (.cells #[.int .u64 F.x0,.int .u64 F.x1,.int .u64 F.x2,.int .u64 F.x3] 24))
   generalize (w50.alloc (.cells #[.int .u64 F.x0,.int .u64 F.x1,.int .u64 F.x2,.int .u64 F.x3] 24))=w5 at *;generalize w50.heap.size=n3 at *;have hs:∀ W',Keep (fun _=>False) w5 W'→(fun w'=>Keep (fun _=>False) w5 w'∧w'.cell? ⟨n2,0,none⟩=some (.int .i64 X.kind)∧w'.cell? ⟨n2,1,none⟩=some (.int .u64 X.set.x0)∧w'.cell? ⟨n2,2,none⟩=some (.int .u64 X.set.x1)∧w'.cell? ⟨n2,3,none⟩=some (.int .u64 X.set.x2)∧w'.cell? ⟨n2,4,none⟩=some (.int .u64 X.set.x3)∧w'.cell? ⟨n2,5,none⟩=some (.int .i64 X.mn)∧w'.cell? ⟨n2,6,none⟩=some (.int .i64 X.mx)∧w'.cell? ⟨n2,7,none⟩=some (.slice xa X.subs.length xc)∧w'.cell? ⟨n3,b / 64,none⟩=some (.int .u64 (F.w (b / 64)))) W':=fun W' q=>by
    obtain ⟨s00,s01,s02,s03,s04,s05,s06,s07⟩:=(cells8 (I5.out.1.cell.keep q (fun h=>h))).1
    exact ⟨q,s00,s01,s02,s03,s04,s05,s06,s07,set_at (I5.out.2.1.keep q (fun h=>h)) (b / 64) (by have:=HBB.out;omega)⟩
   have HS:=hid hs;clear hs;have hb:=HBB.out;obtain ⟨qb,hqb⟩:∃ qb,b / 64=qb:=⟨_,rfl⟩;obtain ⟨mb,hmb⟩:∃ mb,b % 64=mb:=⟨_,rfl⟩;have hq:IntKind.u8.wrap ((b:Int) / 64)=(qb:Int):=by rw [IntKind.wrap_u8];omega
   have hm:IntKind.u8.wrap ((b:Int) % 64)=(mb:Int):=by rw [IntKind.wrap_u8];omega
   have q4:qb<4:=by omega
   have q4i:(qb:Int)<4:=by omega
   have q0i:(0:Int)≤qb:=by omega
   have m64:mb<64:=by omega
   have m64i:(mb:Int)<64:=by omega
   have m0i:(0:Int)≤mb:=by omega
   have m64e:(mb:Int)≤64:=by omega
   have ht:(b:Int).tmod 64=(mb:Int):=by rw [Int.tmod_eq_emod_of_nonneg (by omega)];omega
   have hsh:Op.shift .shr .u64 (F.w qb:Int) .u8 (mb:Int)=pure (.int .u64 ((F.w qb:Int) / 2 ^ mb)):=by rw [shift_shr .u64 .u8 _ _ m0i m64e,Int.toNat_natCast]
   rw [hqb,hmb] at hx;rw [hqb] at HS;generalize F.w qb=x at *;clear hqb hmb hb
   cases h
   ·simp only [Bool.not_false] at hx HNo
    refine wp_region_noPanic ?_;refine wp_region_held_drew (S:=(fun w'=>Keep (fun _=>False) w5 w'∧w'.cell? ⟨n2,0,none⟩=some (.int .i64 X.kind)∧w'.cell? ⟨n2,1,none⟩=some (.int .u64 X.set.x0)∧w'.cell? ⟨n2,2,none⟩=some (.int .u64 X.set.x1)∧w'.cell? ⟨n2,3,none⟩=some (.int .u64 X.set.x2)∧w'.cell? ⟨n2,4,none⟩=some (.int .u64 X.set.x3)∧w'.cell? ⟨n2,5,none⟩=some (.int .i64 X.mn)∧w'.cell? ⟨n2,6,none⟩=some (.int .i64 X.mx)∧w'.cell? ⟨n2,7,none⟩=some (.slice xa X.subs.length xc)∧w'.cell? ⟨n3,qb,none⟩=some (.int .u64 x))) (by kernel_rfl) ?_ (fun hHeld=>?_)
    ·exact HS.out _ ((Keep.refl _ _).drew)
    refine wpAnyH_take (i:=0) (oi:=⟨_,_,_,_,_,_⟩) (v:=?_) rfl (by kernel_rfl) (by kernel_rfl) (by kernel_rfl) (fun _ _ _ h=>h) (Or.inl ⟨by rfl,?_⟩) (by assumption) ?_
    rotate_left 1
    ·(intro w hSw;(try dsimp only at hSw);go_simp;first | done | with_reducible rfl)
    try simp only [Act.put,List.setIfInBounds_toArray,List.set_cons_zero,List.set_cons_succ]
    refine wpAnyH_take (i:=1) (oi:=⟨_,_,_,_,_,_⟩) (v:=?_) rfl (by kernel_rfl) (by kernel_rfl) (by kernel_rfl) (fun _ _ _ h=>h) (Or.inl ⟨by rfl,?_⟩) (by assumption) ?_
    rotate_left 1
    ·(intro w hSw;(try dsimp only at hSw);go_simp;first | done | with_reducible rfl)
    try simp only [Act.put,List.setIfInBounds_toArray,List.set_cons_zero,List.set_cons_succ]
    refine wpAnyH_take (i:=2) (oi:=⟨_,_,_,_,_,_⟩) (v:=?_) rfl (by kernel_rfl) (by kernel_rfl) (by kernel_rfl) (fun _ _ _ h=>h) (Or.inl ⟨by rfl,?_⟩) (by assumption) ?_
    rotate_left 1
    ·(intro w hSw;(try dsimp only at hSw);go_simp;first | done | with_reducible rfl)
    try simp only [Act.put,List.setIfInBounds_toArray,List.set_cons_zero,List.set_cons_succ]
    refine wpAnyH_take (i:=3) (oi:=⟨_,_,_,_,_,_⟩) (v:=?_) rfl (by kernel_rfl) (by kernel_rfl) (by kernel_rfl) (fun _ _ _ h=>h) (Or.inl ⟨by rfl,?_⟩) (by assumption) ?_
    rotate_left 1
    ·(intro w hSw;(try dsimp only at hSw);go_simp;first | done | with_reducible rfl)
    try simp only [Act.put,List.setIfInBounds_toArray,List.set_cons_zero,List.set_cons_succ]
    refine wpAnyH_take (i:=5) (oi:=⟨_,_,_,_,_,_⟩) (v:=?_) rfl (by kernel_rfl) (by kernel_rfl) (by kernel_rfl) (fun _ _ _ h=>h) (Or.inl ⟨by rfl,?_⟩) (by assumption) ?_
    rotate_left 1
    ·(intro w hSw;(try dsimp only at hSw);go_simp;first | done | with_reducible rfl)
    try simp only [Act.put,List.setIfInBounds_toArray,List.set_cons_zero,List.set_cons_succ]
    refine wpAnyH_take (i:=6) (oi:=⟨_,_,_,_,_,_⟩) (v:=?_) rfl (by kernel_rfl) (by kernel_rfl) (by kernel_rfl) (fun _ _ _ h=>h) (Or.inl ⟨by rfl,?_⟩) (by assumption) ?_
    rotate_left 1
    ·(intro w hSw;(try dsimp only at hSw);go_simp;first | done | with_reducible rfl)
    try simp only [Act.put,List.setIfInBounds_toArray,List.set_cons_zero,List.set_cons_succ]
    refine wpAnyH_take (i:=7) (oi:=⟨_,_,_,_,_,_⟩) (v:=?_) rfl (by kernel_rfl) (by kernel_rfl) (by kernel_rfl) (fun _ _ _ h=>h) (Or.inl ⟨by rfl,?_⟩) (by assumption) ?_
    rotate_left 1
    ·(intro w hSw;(try dsimp only at hSw);go_simp;first | done | with_reducible rfl)
    try simp only [Act.put,List.setIfInBounds_toArray,List.set_cons_zero,List.set_cons_succ]
    refine wpAnyH_take (i:=8) (oi:=⟨_,_,_,_,_,_⟩) (v:=?_) rfl (by kernel_rfl) (by kernel_rfl) (by kernel_rfl) (fun _ _ _ h=>h) (Or.inl ⟨by rfl,?_⟩) (by assumption) ?_
    rotate_left 1
    ·(intro w hSw;(try dsimp only at hSw);go_simp;first | done | with_reducible rfl)
    try simp only [Act.put,List.setIfInBounds_toArray,List.set_cons_zero,List.set_cons_succ]
    refine wpAnyH_take (i:=9) (oi:=⟨_,_,_,_,_,_⟩) (v:=?_) rfl (by kernel_rfl) (by kernel_rfl) (by kernel_rfl) (fun _ _ _ h=>h) (Or.inl ⟨by rfl,?_⟩) (by assumption) ?_
    rotate_left 1
    ·(intro w hSw;(try dsimp only at hSw);go_simp;first | done | with_reducible rfl)
    try simp only [Act.put,List.setIfInBounds_toArray,List.set_cons_zero,List.set_cons_succ]
    refine wpAnyH_take (i:=10) (oi:=⟨_,_,_,_,_,_⟩) (v:=?_) rfl (by kernel_rfl) (by kernel_rfl) (by kernel_rfl) (fun _ _ _ h=>h) (Or.inl ⟨by rfl,?_⟩) (by assumption) ?_
    rotate_left 1
    ·(intro w hSw;(try dsimp only at hSw);go_simp;first | done | with_reducible rfl)
    try simp only [Act.put,List.setIfInBounds_toArray,List.set_cons_zero,List.set_cons_succ]
    refine wpAnyH_take (i:=11) (oi:=⟨_,_,_,_,_,_⟩) (v:=?_) rfl (by kernel_rfl) (by kernel_rfl) (by kernel_rfl) (fun _ _ _ h=>h) (Or.inl ⟨by rfl,?_⟩) (by assumption) ?_
    rotate_left 1
    ·(intro w hSw;(try dsimp only at hSw);go_simp;first | done | with_reducible rfl)
    try simp only [Act.put,List.setIfInBounds_toArray,List.set_cons_zero,List.set_cons_succ]
    refine wpAnyH_take (i:=12) (oi:=⟨_,_,_,_,_,_⟩) (v:=?_) rfl (by kernel_rfl) (by kernel_rfl) (by kernel_rfl) (fun _ _ _ h=>h) (Or.inl ⟨by rfl,?_⟩) (by assumption) ?_
    rotate_left 1
    ·(intro w hSw;(try dsimp only at hSw);go_simp;first | done | with_reducible rfl)
    try simp only [Act.put,List.setIfInBounds_toArray,List.set_cons_zero,List.set_cons_succ]
    refine wpAnyH_take (i:=13) (oi:=⟨_,_,_,_,_,_⟩) (v:=?_) rfl (by kernel_rfl) (by kernel_rfl) (by kernel_rfl) (fun _ _ _ h=>h) (Or.inl ⟨by rfl,?_⟩) (by assumption) ?_
    rotate_left 1
    ·(intro w hSw;(try dsimp only at hSw);go_simp;first | done | with_reducible rfl)
    try simp only [Act.put,List.setIfInBounds_toArray,List.set_cons_zero,List.set_cons_succ]
    refine wpAnyH_ready (rs:=[4]) (by kernel_rfl) (by simp) ?_
    refine AllReadyH.cons (o:=⟨_,_,_,_,_,_⟩) rfl (fun K hK=>?_) AllReadyH.nil
    go_simp
    (go_at_call 9;refine (HNo.out _ _ _ (I5.out.1.lie.keepF (And.left hHeld))).mono ?_;rintro e w6 ⟨rfl,q⟩)
    refine hK.out _ _ ?_ (fun hHeld'=>?_)
    ·exact HS.out _ (Keep.trans (And.left hHeld) q)
    clear hK K hHeld;have hHeld:=hHeld';clear hHeld'
    try simp only [Act.put,List.setIfInBounds_toArray,List.set_cons_zero,List.set_cons_succ]
    refine wpAnyH_take (i:=14) (oi:=⟨_,_,_,_,_,_⟩) (v:=?_) rfl (by kernel_rfl) (by kernel_rfl) (by kernel_rfl) (fun _ _ _ h=>h) (Or.inl ⟨by rfl,?_⟩) (by assumption) ?_
    rotate_left 1
    ·(intro w hSw;(try dsimp only at hSw);go_simp;first | done | with_reducible rfl)
    try simp only [Act.put,List.setIfInBounds_toArray,List.set_cons_zero,List.set_cons_succ]
    refine wpAnyH_take (i:=15) (oi:=⟨_,_,_,_,_,_⟩) (v:=?_) rfl (by kernel_rfl) (by kernel_rfl) (by kernel_rfl) (fun _ _ _ h=>h) (Or.inl ⟨by rfl,?_⟩) (by assumption) ?_
    rotate_left 1
    ·(intro w hSw;(try dsimp only at hSw);go_simp;first | done | with_reducible rfl)
    try simp only [Act.put,List.setIfInBounds_toArray,List.set_cons_zero,List.set_cons_succ]
    refine wpAnyH_take (i:=16) (oi:=⟨_,_,_,_,_,_⟩) (v:=?_) rfl (by kernel_rfl) (by kernel_rfl) (by kernel_rfl) (fun _ _ _ h=>h) (Or.inl ⟨by rfl,?_⟩) (by assumption) ?_
    rotate_left 1
    ·(intro w hSw;(try dsimp only at hSw);go_simp;first | done | with_reducible rfl)
    try simp only [Act.put,List.setIfInBounds_toArray]
    refine wpAnyH_done (by kernel_rfl) ?_ _
    refine NoPanic.normal ?_;have HZ:=hid (I5.out.2.2.trans (And.left hHeld));clear hHeld;go_wp2_with fail;go_ret;exact ⟨rfl,HZ.out⟩
   ·simp only [Bool.not_true] at hx HNo
    refine wp_region_noPanic ?_;refine wp_region_held_drew (S:=(fun w'=>Keep (fun _=>False) w5 w'∧w'.cell? ⟨n2,0,none⟩=some (.int .i64 X.kind)∧w'.cell? ⟨n2,1,none⟩=some (.int .u64 X.set.x0)∧w'.cell? ⟨n2,2,none⟩=some (.int .u64 X.set.x1)∧w'.cell? ⟨n2,3,none⟩=some (.int .u64 X.set.x2)∧w'.cell? ⟨n2,4,none⟩=some (.int .u64 X.set.x3)∧w'.cell? ⟨n2,5,none⟩=some (.int .i64 X.mn)∧w'.cell? ⟨n2,6,none⟩=some (.int .i64 X.mx)∧w'.cell? ⟨n2,7,none⟩=some (.slice xa X.subs.length xc)∧w'.cell? ⟨n3,qb,none⟩=some (.int .u64 x))) (by kernel_rfl) ?_ (fun hHeld=>?_)
    ·exact HS.out _ ((Keep.refl _ _).drew)
    refine wpAnyH_take (i:=0) (oi:=⟨_,_,_,_,_,_⟩) (v:=?_) rfl (by kernel_rfl) (by kernel_rfl) (by kernel_rfl) (fun _ _ _ h=>h) (Or.inl ⟨by rfl,?_⟩) (by assumption) ?_
    rotate_left 1
    ·(intro w hSw;(try dsimp only at hSw);go_simp;first | done | with_reducible rfl)
    try simp only [Act.put,List.setIfInBounds_toArray,List.set_cons_zero,List.set_cons_succ]
    refine wpAnyH_take (i:=1) (oi:=⟨_,_,_,_,_,_⟩) (v:=?_) rfl (by kernel_rfl) (by kernel_rfl) (by kernel_rfl) (fun _ _ _ h=>h) (Or.inl ⟨by rfl,?_⟩) (by assumption) ?_
    rotate_left 1
    ·(intro w hSw;(try dsimp only at hSw);go_simp;first | done | with_reducible rfl)
    try simp only [Act.put,List.setIfInBounds_toArray,List.set_cons_zero,List.set_cons_succ]
    refine wpAnyH_take (i:=2) (oi:=⟨_,_,_,_,_,_⟩) (v:=?_) rfl (by kernel_rfl) (by kernel_rfl) (by kernel_rfl) (fun _ _ _ h=>h) (Or.inl ⟨by rfl,?_⟩) (by assumption) ?_
    rotate_left 1
    ·(intro w hSw;(try dsimp only at hSw);go_simp;first | done | with_reducible rfl)
    try simp only [Act.put,List.setIfInBounds_toArray,List.set_cons_zero,List.set_cons_succ]
    refine wpAnyH_take (i:=3) (oi:=⟨_,_,_,_,_,_⟩) (v:=?_) rfl (by kernel_rfl) (by kernel_rfl) (by kernel_rfl) (fun _ _ _ h=>h) (Or.inl ⟨by rfl,?_⟩) (by assumption) ?_
    rotate_left 1
    ·(intro w hSw;(try dsimp only at hSw);go_simp;first | done | with_reducible rfl)
    try simp only [Act.put,List.setIfInBounds_toArray,List.set_cons_zero,List.set_cons_succ]
    refine wpAnyH_take (i:=5) (oi:=⟨_,_,_,_,_,_⟩) (v:=?_) rfl (by kernel_rfl) (by kernel_rfl) (by kernel_rfl) (fun _ _ _ h=>h) (Or.inl ⟨by rfl,?_⟩) (by assumption) ?_
    rotate_left 1
    ·(intro w hSw;(try dsimp only at hSw);go_simp;first | done | with_reducible rfl)
    try simp only [Act.put,List.setIfInBounds_toArray,List.set_cons_zero,List.set_cons_succ]
    refine wpAnyH_take (i:=6) (oi:=⟨_,_,_,_,_,_⟩) (v:=?_) rfl (by kernel_rfl) (by kernel_rfl) (by kernel_rfl) (fun _ _ _ h=>h) (Or.inl ⟨by rfl,?_⟩) (by assumption) ?_
    rotate_left 1
    ·(intro w hSw;(try dsimp only at hSw);go_simp;first | done | with_reducible rfl)
    try simp only [Act.put,List.setIfInBounds_toArray,List.set_cons_zero,List.set_cons_succ]
    refine wpAnyH_take (i:=7) (oi:=⟨_,_,_,_,_,_⟩) (v:=?_) rfl (by kernel_rfl) (by kernel_rfl) (by kernel_rfl) (fun _ _ _ h=>h) (Or.inl ⟨by rfl,?_⟩) (by assumption) ?_
    rotate_left 1
    ·(intro w hSw;(try dsimp only at hSw);go_simp;first | done | with_reducible rfl)
    try simp only [Act.put,List.setIfInBounds_toArray,List.set_cons_zero,List.set_cons_succ]
    refine wpAnyH_take (i:=8) (oi:=⟨_,_,_,_,_,_⟩) (v:=?_) rfl (by kernel_rfl) (by kernel_rfl) (by kernel_rfl) (fun _ _ _ h=>h) (Or.inl ⟨by rfl,?_⟩) (by assumption) ?_
    rotate_left 1
    ·(intro w hSw;(try dsimp only at hSw);go_simp;first | done | with_reducible rfl)
    try simp only [Act.put,List.setIfInBounds_toArray,List.set_cons_zero,List.set_cons_succ]
    refine wpAnyH_take (i:=9) (oi:=⟨_,_,_,_,_,_⟩) (v:=?_) rfl (by kernel_rfl) (by kernel_rfl) (by kernel_rfl) (fun _ _ _ h=>h) (Or.inl ⟨by rfl,?_⟩) (by assumption) ?_
    rotate_left 1
    ·(intro w hSw;(try dsimp only at hSw);go_simp;first | done | with_reducible rfl)
    try simp only [Act.put,List.setIfInBounds_toArray,List.set_cons_zero,List.set_cons_succ]
    refine wpAnyH_take (i:=10) (oi:=⟨_,_,_,_,_,_⟩) (v:=?_) rfl (by kernel_rfl) (by kernel_rfl) (by kernel_rfl) (fun _ _ _ h=>h) (Or.inl ⟨by rfl,?_⟩) (by assumption) ?_
    rotate_left 1
    ·(intro w hSw;(try dsimp only at hSw);go_simp;first | done | with_reducible rfl)
    try simp only [Act.put,List.setIfInBounds_toArray,List.set_cons_zero,List.set_cons_succ]
    refine wpAnyH_take (i:=11) (oi:=⟨_,_,_,_,_,_⟩) (v:=?_) rfl (by kernel_rfl) (by kernel_rfl) (by kernel_rfl) (fun _ _ _ h=>h) (Or.inl ⟨by rfl,?_⟩) (by assumption) ?_
    rotate_left 1
    ·(intro w hSw;(try dsimp only at hSw);go_simp;first | done | with_reducible rfl)
    try simp only [Act.put,List.setIfInBounds_toArray,List.set_cons_zero,List.set_cons_succ]
    refine wpAnyH_take (i:=12) (oi:=⟨_,_,_,_,_,_⟩) (v:=?_) rfl (by kernel_rfl) (by kernel_rfl) (by kernel_rfl) (fun _ _ _ h=>h) (Or.inl ⟨by rfl,?_⟩) (by assumption) ?_
    rotate_left 1
    ·(intro w hSw;(try dsimp only at hSw);go_simp;first | done | with_reducible rfl)
    try simp only [Act.put,List.setIfInBounds_toArray,List.set_cons_zero,List.set_cons_succ]
    refine wpAnyH_take (i:=13) (oi:=⟨_,_,_,_,_,_⟩) (v:=?_) rfl (by kernel_rfl) (by kernel_rfl) (by kernel_rfl) (fun _ _ _ h=>h) (Or.inl ⟨by rfl,?_⟩) (by assumption) ?_
    rotate_left 1
    ·(intro w hSw;(try dsimp only at hSw);go_simp;first | done | with_reducible rfl)
    try simp only [Act.put,List.setIfInBounds_toArray,List.set_cons_zero,List.set_cons_succ]
    refine wpAnyH_ready (rs:=[4]) (by kernel_rfl) (by simp) ?_
    refine AllReadyH.cons (o:=⟨_,_,_,_,_,_⟩) rfl (fun K hK=>?_) AllReadyH.nil
    go_simp
    (go_at_call 9;refine (HNo.out _ _ _ (I5.out.1.lie.keepF (And.left hHeld))).mono ?_;rintro e w6 ⟨rfl,q⟩)
    refine hK.out _ _ ?_ (fun hHeld'=>?_)
    ·exact HS.out _ (Keep.trans (And.left hHeld) q)
    clear hK K hHeld;have hHeld:=hHeld';clear hHeld'
    try simp only [Act.put,List.setIfInBounds_toArray,List.set_cons_zero,List.set_cons_succ]
    refine wpAnyH_take (i:=14) (oi:=⟨_,_,_,_,_,_⟩) (v:=?_) rfl (by kernel_rfl) (by kernel_rfl) (by kernel_rfl) (fun _ _ _ h=>h) (Or.inl ⟨by rfl,?_⟩) (by assumption) ?_
    rotate_left 1
    ·(intro w hSw;(try dsimp only at hSw);go_simp;first | done | with_reducible rfl)
    try simp only [Act.put,List.setIfInBounds_toArray,List.set_cons_zero,List.set_cons_succ]
    refine wpAnyH_take (i:=15) (oi:=⟨_,_,_,_,_,_⟩) (v:=?_) rfl (by kernel_rfl) (by kernel_rfl) (by kernel_rfl) (fun _ _ _ h=>h) (Or.inl ⟨by rfl,?_⟩) (by assumption) ?_
    rotate_left 1
    ·(intro w hSw;(try dsimp only at hSw);go_simp;first | done | with_reducible rfl)
    try simp only [Act.put,List.setIfInBounds_toArray,List.set_cons_zero,List.set_cons_succ]
    refine wpAnyH_take (i:=16) (oi:=⟨_,_,_,_,_,_⟩) (v:=?_) rfl (by kernel_rfl) (by kernel_rfl) (by kernel_rfl) (fun _ _ _ h=>h) (Or.inl ⟨by rfl,?_⟩) (by assumption) ?_
    rotate_left 1
    ·(intro w hSw;(try dsimp only at hSw);go_simp;first | done | with_reducible rfl)
    try simp only [Act.put,List.setIfInBounds_toArray]
    refine wpAnyH_done (by kernel_rfl) ?_ _
    refine NoPanic.normal ?_;have HZ:=hid (I5.out.2.2.trans (And.left hHeld));clear hHeld;go_wp2_with fail;go_ret;exact ⟨rfl,HZ.out⟩
end P12
namespace DeriveFirst
open Go.RowKit Base P08 P12
open Go.ChangeShapes Go.WideShapes Go.ChangeAt
theorem walk {H:Type} {enc:TypeId × Value→H} (v0 v1:Value) {d0 d1:DataW H} {p0 p1:List MemPlace} (W:World)
  (k0:Value.okWide Try.prog W .any 0 27 v0) (k1:Value.okWide Try.prog W .any 0 5 v1)
  (h0:DataW.Trod enc Try.prog W 0 (fun _=>true) true 27 v0 d0 p0) (h1:DataW.Trod enc Try.prog W 0 (fun _=>true) true 5 v1 d1 p1)
  (hk:Rows.uptoSmall H [d0,d1]=true) :
  Calls Try.prog 3 #[v0,v1] W fun e w'=>e=.returned (.bool true)∧Below W.heap.size W w':=by
 have hb:=of_decide_eq_true hk;obtain ⟨t0,a0,c0,rfl,hc0,hL0,hn0,hs0⟩:=node_arg k0 h0;obtain ⟨b1,rfl,hb1⟩:=Go.Proofs.Ytlmfbchgkjgljaa.Tied.byte_arg k1 h1
 simp only [Rows.uptoBulkAll] at hb
 exact (law_first t0 a0 c0 W hL0 hc0 (by omega) hs0 b1 hb1).mono fun e w' ⟨he,q⟩=>⟨he,q.below (Nat.le_refl _) (fun _ _ h=>h)⟩
end DeriveFirst
namespace DeriveFirst
open Go.ChangeShapes Go.WideShapes Go.ChangeAt Go.RowKit
set_option linter.unusedVariables false
theorem own:ownKnob Try.prog.godebug=none:=by kernel_rfl
theorem laidOut:laidOutB Try.prog=true:=by kernel_rfl
theorem contract (H:Type) (enc:TypeId × Value→H) (W:World) (base:Nat) (args:Array Value) (ds gs:List (DataW H)) (before:List MemPlace)
  (hval0:∀ (j:Nat) t v,Try.f3.params[j]?=some t→args[j]?=some v→Value.okWide Try.prog W .any base t v)
  (hW:DataW.Whole enc Try.prog Try.f3.params.toList Rows.deriveFirstSpec.vars false W args.toList ds gs before) (hk:Rows.uptoSmall H (ds++gs)=true) :
  Calls Try.prog 3 args W fun e W'=>∃ v,e=.returned v∧Rows.deriveFirstSpec.post enc Try.prog Try.f3 false true false false W args v W':=by
 have hval:∀ (j:Nat) t v,Try.f3.params[j]?=some t→args[j]?=some v→Value.okWide Try.prog W .any base t v:=hval0;have hW':=hW;obtain ⟨p,q,hA0,hV,rfl,hfz,hnd⟩:=hW;have hA:DataW.TrodAll enc Try.prog W 0 (fun _=>true) true Try.f3.params.toList args.toList ds p:=hA0
 rw [Try.params3] at hA hval;obtain ⟨v0,vs0,d0,ds0,p0,q0,hargs,rfl,rfl,h0,r0⟩:=trodAll_cons hA;obtain ⟨v1,vs1,d1,ds1,p1,q1,rfl,rfl,rfl,h1,r1⟩:=trodAll_cons r0;obtain ⟨rfl,rfl,rfl⟩:=trodAll_nil r1;obtain rfl:args=#[v0,v1]:=by cases args;simp_all
 obtain ⟨rfl,rfl⟩:=trodVars_none hV;have lt0:∀ x ∈ p0,x.block<W.heap.size:=by obtain ⟨m,hm⟩:=h0;exact DataW.trod_lt m _ _ _ hm
 have lt1:∀ x ∈ p1,x.block<W.heap.size:=by obtain ⟨m,hm⟩:=h1;exact DataW.trod_lt m _ _ _ hm
 have hk1:Rows.uptoSmall H [d0,d1]=true:=hk;refine (walk v0 v1 W (hval 0 27 v0 rfl rfl) (hval 1 5 v1 rfl rfl) h0 h1 hk1).mono fun e W' ⟨he,bel⟩=>?_
 subst he;exact ⟨_,rfl,_,_,_,[],_,[],hW',trodAll_mk1 (shut_bool Try.underlying4 _),(trodAll_cons_mk (Below.trod laidOut (by kernel_rfl) (of_decide_eq_true (by kernel_rfl)) h0 bel lt0) (trodAll_cons_mk (Below.trod laidOut (by kernel_rfl) (of_decide_eq_true (by kernel_rfl)) h1 bel lt1) trodAll_mk0)),rfl,bel.frame _,fun h=>by cases h⟩
theorem lifted (os:Os) (started:os.Started) (H:Type) (enc:TypeId × Value→H) (F:Stop.Interp) :
  ReturnsInHanded {} Try.checked os 3 .any ((Rows.OpenSpec.upto Rows.deriveFirstSpec).pre6 enc Try.prog Try.f3 Rows.deriveFirstUptoRow.domain false) (((Rows.OpenSpec.upto Rows.deriveFirstSpec).at F).post enc Try.prog Try.f3 false true false false):=by
 refine returnsInHanded_of_cond (C:=Try.checked) (s:=Rows.OpenSpec.upto Rows.deriveFirstSpec) (k:=Rows.uptoSmall) rfl own started (by kernel_rfl) Try.func3
  (OpenSpec.witness (enc:=enc) (C:=Try.checked) (s:=Rows.OpenSpec.upto Rows.deriveFirstSpec) (k:=Rows.uptoSmall) rfl false ⟨#[],#[.agg #[.int .i64 0,.int .u64 0,.int .u64 0,.int .u64 0,.int .u64 0,.int .i64 0,.int .i64 0,.slice none 0 0],.int .u8 0],[]⟩ 8 (by kernel_rfl) (by kernel_rfl) (by kernel_rfl)
   (x:=([.agg [.lit (.int .i64 0),.agg [.lit (.int .u64 0),.lit (.int .u64 0),.lit (.int .u64 0),.lit (.int .u64 0)],.lit (.int .i64 0),.lit (.int .i64 0),.nil],.lit (.int .u8 0)],[],[])) (by kernel_rfl) rfl (by kernel_rfl)) ?_
 intro W base args ds gs before hval hW _ hk _;exact contract H enc W base args ds gs before hval hW hk
theorem over:Rows.deriveFirstUptoRow.holds Try.pinned (Rows.OpenSpec.upto Rows.deriveFirstSpec) :=
 OpenClaim.holds_of_cond 3 Try.f3 rfl rfl rfl rfl rfl rfl rfl ⟨rfl,rfl,rfl,rfl,rfl⟩ rfl rfl rfl rfl rfl (by kernel_rfl) Try.func3 (by kernel_rfl)
  (of_decide_eq_true (by kernel_rfl)) (by unfold Func.isWrapper;first | (rw [if_pos (by decide +kernel)];kernel_rfl) | (rw [if_neg (by decide +kernel)];exact ⟨rfl,rfl⟩))
  (fun os started H enc _ F=>lifted os started H enc F)
theorem proved:Rows.DeriveFirstUptoSaid:=over
#print axioms proved
end DeriveFirst
end Go.Proofs.Ytlmfbchgkjgljaa

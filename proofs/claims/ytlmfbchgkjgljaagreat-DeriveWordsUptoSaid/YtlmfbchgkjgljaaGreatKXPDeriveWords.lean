/- Layer 12: DeriveWords. -/
import Derived.Test.YtlmfbchgkjgljaaGreatKX53
import Derived.Test.YtlmfbchgkjgljaaGreatKX26
import Derived.Test.YtlmfbchgkjgljaaGreatKX50
import Derived.Test.YtlmfbchgkjgljaaGreatKX21
import Derived.Test.YtlmfbchgkjgljaaGreatKX41
import Derived.Test.YtlmfbchgkjgljaaGreatKX08
import Derived.Test.YtlmfbchgkjgljaaGreatRows
import Derived.JoinedCond
set_option maxRecDepth 100000
set_option maxHeartbeats 32000000
open Go.Lib (hid)
namespace Go.Proofs.YtlmfbchgkjgljaaGreat
namespace P12
open Go.RowKit Base Bytes P07 P08 P09 P10
open Sets (ST)
theorem same_is (t u:T) (a:Option Addr) (c:Nat) (b:Option Addr) (d:Nat) (w:World) (ha:Lie w (fun _=>True) a t.subs) (hb:Lie w (fun _=>True) b u.subs) {E:Bool} (hE:sameB t u=E) :
  Calls Tryz.prog 12 #[nodeV t a c,nodeV u b d] w fun e w'=>e=.returned (.bool E)∧Keep (fun _=>False) w w':=by
 refine (same_any t u a c b d w ha hb).mono ?_;rintro e w' ⟨v,rfl,hv,q⟩;have:v=E:=by
  rw [← hE,Bool.eq_iff_iff,sameB_iff];exact hv
 rw [this];exact ⟨rfl,q⟩
theorem word_cnt:∀ (s:List UInt8) (t u:T),cnt t≤4000→wordG t s=some u→cnt u≤4000
 | [],t,u,h,e=>by
  rw [wordG] at e
  cases e
  exact h
 | c::s,t,u,h,e=>by
  rw [wordG] at e
  split at e
  ·cases e
  ·exact word_cnt s _ u (by omega) e
theorem law_words (t:T) (a:Option Addr) (c:Nat) (w:World) (hta:Lie w (fun _=>True) a t.subs) (hcl:t.subs.length≤c) (ht:cnt t≤1000000000) (hst:SOk t) (s r:List UInt8) (hlen:s.length+r.length≤1000000000) :
  Calls Tryz.prog 5 #[nodeV t a c,.string ⟨s.toArray⟩,.string ⟨r.toArray⟩] w fun e w'=>e=.returned (.bool true)∧Keep (fun _=>False) w w':=by
 have hsz:=P07.size_str s;have hsm:=P07.size_str r;have hcat:=Bytes.str_append s r;obtain ⟨Z,hZ⟩:∃ Z:ByteArray,(⟨(s++r).toArray⟩:ByteArray)=Z:=⟨_,rfl⟩;rw [hZ] at hcat;have HZ:=hid hZ;have hfw:=fun w' L=>few12_any t hst ht (s++r) a c w' L
 rw [hZ] at hfw;have HW:=hid hfw;clear hZ hfw;have H0:=hid (And.intro (Nd.new hcl hta) ((Keep.refl (fun _=>False) w).alloc (.cells (ncells t a c) 27)))
 have HH:=hid (And.intro ht hst);clear hta hcl hst ht
 go_enter Tryz.func5,Tryz.ntmps5
 go_upto_region 1 with fail;generalize (w.alloc (.cells (ncells t a c) 27))=W0 at *;generalize w.heap.size=n1 at *;go_wp2_with fail;refine (awake12 W0).mono ?_;rintro e w1 ⟨rfl,q1⟩;have B1:=hid (And.intro (H0.out.1.keep q1) (H0.out.2.trans q1));clear q1;obtain ⟨d0,d1,d2,d3,d4,d5,d6,d7⟩:=(cells8 B1.out.1.cell).1;go_wp2_with fail;refine (HW.out w1 B1.out.1.lie).mono ?_;rintro e w2 ⟨rfl,q2⟩;have B2:=hid (And.intro (B1.out.1.keep q2) (B1.out.2.trans q2));clear q2 d0 d1 d2 d3 d4 d5 d6 d7;obtain ⟨d0,d1,d2,d3,d4,d5,d6,d7⟩:=(cells8 B2.out.1.cell).1
 cases hf:fewD (s++r) t with
 | false =>
  clear d0 d1 d2 d3 d4 d5 d6 d7;go_wp2_with fail;refine (awake12 _).mono ?_;rintro e w99 ⟨rfl,q99⟩;have Q99:=hid (B2.out.2.trans q99);clear q99;go_wp2_with fail;go_ret;exact ⟨rfl,Q99.out⟩
 | true =>
  unfold fewD at hf
  simp only [Bool.and_eq_true,decide_eq_true_eq,Bool.or_eq_true,Bool.not_eq_true'] at hf
  have HF:=hid hf;clear hf;rw [List.length_append] at HF;have HRi:=hid (fright_any t HH.out.1 a c w2 B2.out.1.lie)
  cases hr:rightB t with
  | false =>
   rw [hr] at HRi;clear hr;go_wp2_with fail;refine HRi.out.mono ?_;rintro e w3 ⟨rfl,q3⟩;have B3:=hid (B2.out.2.trans q3);clear q3;clear d0 d1 d2 d3 d4 d5 d6 d7;go_wp2_with fail;refine (awake12 _).mono ?_;rintro e w99 ⟨rfl,q99⟩;have Q99:=hid (B3.out.trans q99);clear q99;go_wp2_with fail;go_ret;exact ⟨rfl,Q99.out⟩
  | true =>
   have hR:RT 12 t:=(rightB_iff HH.out.2).1 hr;have hc60:cnt t≤60:=by
    rcases HF.out.2.2 with h | h
    ·rw [hr] at h;cases h
    ·exact h
   rw [hr] at HRi;have HA:=hid (And.intro hR hc60);clear hr hR hc60;go_wp2_with fail;refine HRi.out.mono ?_;rintro e w3 ⟨rfl,q3⟩;have B3:=hid (And.intro (B2.out.1.keep q3) (B2.out.2.trans q3));clear q3 d0 d1 d2 d3 d4 d5 d6 d7;obtain ⟨d0,d1,d2,d3,d4,d5,d6,d7⟩:=(cells8 B3.out.1.cell).1
   cases ho:wordG (simT t) s with
   | none =>
    have HWo:=hid (show Calls Tryz.prog 10 #[nodeV t a c,.string ⟨s.toArray⟩] w3 (Gives2 w3 (fun _=>True) zT 11) from cword_right s (by have:=HF.out.2.1;omega) t HA.out.1 (by have:=HA.out.2;omega) none ho a c (fun _=>True) w3 B3.out.1.lie B3.out.1.le)
    clear ho;go_wp2_with fail;refine (HWo.out).mono ?_;rintro e w40 ⟨⟨v,rfl,xa,xc,rfl,hle,hlie⟩,q0⟩;have qq:=q0.alloc (.cells (ncells zT xa xc) 27);have I4:=hid (And.intro (B3.out.1.keep qq) (And.intro (Nd.new hle hlie) (B3.out.2.trans qq)));clear hle hlie q0 qq d0 d1 d2 d3 d4 d5 d6 d7;go_upto_region 4 with fail
    change Code.wp _ _ _ _ (w40.alloc (.cells (ncells zT xa xc) 27))
    generalize (w40.alloc (.cells (ncells zT xa xc) 27))=w4 at *;generalize w40.heap.size=n2 at *;have hs:∀ W',Keep (fun _=>False) w4 W'→(fun w'=>Keep (fun _=>False) w4 w'∧w'.cell? ⟨n2,0,none⟩=some (.int .i64 zT.kind)∧w'.cell? ⟨n2,1,none⟩=some (.int .u64 zT.set.x0)∧w'.cell? ⟨n2,2,none⟩=some (.int .u64 zT.set.x1)∧w'.cell? ⟨n2,3,none⟩=some (.int .u64 zT.set.x2)∧w'.cell? ⟨n2,4,none⟩=some (.int .u64 zT.set.x3)∧w'.cell? ⟨n2,5,none⟩=some (.int .i64 zT.mn)∧w'.cell? ⟨n2,6,none⟩=some (.int .i64 zT.mx)∧w'.cell? ⟨n2,7,none⟩=some (.slice xa zT.subs.length xc)) W':=fun W' q=>by
     obtain ⟨s00,s01,s02,s03,s04,s05,s06,s07⟩:=(cells8 (I4.out.2.1.cell.keep q (fun h=>h))).1
     exact ⟨q,s00,s01,s02,s03,s04,s05,s06,s07⟩
    have HS:=hid hs;clear hs;refine wp_region_noPanic ?_;refine wp_region_held_drew (S:=(fun w'=>Keep (fun _=>False) w4 w'∧w'.cell? ⟨n2,0,none⟩=some (.int .i64 zT.kind)∧w'.cell? ⟨n2,1,none⟩=some (.int .u64 zT.set.x0)∧w'.cell? ⟨n2,2,none⟩=some (.int .u64 zT.set.x1)∧w'.cell? ⟨n2,3,none⟩=some (.int .u64 zT.set.x2)∧w'.cell? ⟨n2,4,none⟩=some (.int .u64 zT.set.x3)∧w'.cell? ⟨n2,5,none⟩=some (.int .i64 zT.mn)∧w'.cell? ⟨n2,6,none⟩=some (.int .i64 zT.mx)∧w'.cell? ⟨n2,7,none⟩=some (.slice xa zT.subs.length xc))) (by kernel_rfl) ?_ (fun hHeld=>?_)
    ·exact HS.out _ ((Keep.refl _ _).drew)
    refine wpAnyH_take (i:=0) (oi:=⟨_,_,_,_,_,_⟩) (v:=?_) rfl (by kernel_rfl) (by kernel_rfl) (by kernel_rfl) (fun _ _ _ h=>h) (Or.inl ⟨by rfl,?_⟩) (by assumption) ?_
    rotate_left 1
    ·(intro w hSw;(try dsimp only at hSw);go_simp;first | done | with_reducible rfl)
    try simp only [Act.put,List.setIfInBounds_toArray,List.set_cons_zero,List.set_cons_succ]
    refine wpAnyH_take (i:=1) (oi:=⟨_,_,_,_,_,_⟩) (v:=?_) rfl (by kernel_rfl) (by kernel_rfl) (by kernel_rfl) (fun _ _ _ h=>h) (Or.inl ⟨by rfl,?_⟩) (by assumption) ?_
    rotate_left 1
    ·(intro w hSw;(try dsimp only at hSw);go_simp;first | done | with_reducible rfl)
    try simp only [Act.put,List.setIfInBounds_toArray,List.set_cons_zero,List.set_cons_succ]
    refine wpAnyH_take (i:=2) (oi:=⟨_,_,_,_,_,_⟩) (v:=?_) rfl (by kernel_rfl) (by kernel_rfl) (by kernel_rfl) (fun _ _ _ h=>h) (Or.inl ⟨by rfl,?_⟩) (by assumption) ?_
    rotate_left 1
    ·(intro w hSw;(try dsimp only at hSw);go_simp;first | done | with_reducible rfl)
    try simp only [Act.put,List.setIfInBounds_toArray,List.set_cons_zero,List.set_cons_succ]
    refine wpAnyH_take (i:=3) (oi:=⟨_,_,_,_,_,_⟩) (v:=undef) rfl (by kernel_rfl) (by kernel_rfl) (by kernel_rfl) (fun _ _ _ h=>h) (Or.inr ⟨by rfl,rfl⟩) (by assumption) ?_
    try simp only [Act.put,List.setIfInBounds_toArray,List.set_cons_zero,List.set_cons_succ]
    refine wpAnyH_take (i:=4) (oi:=⟨_,_,_,_,_,_⟩) (v:=undef) rfl (by kernel_rfl) (by kernel_rfl) (by kernel_rfl) (fun _ _ _ h=>h) (Or.inr ⟨by rfl,rfl⟩) (by assumption) ?_
    try simp only [Act.put,List.setIfInBounds_toArray,List.set_cons_zero,List.set_cons_succ]
    refine wpAnyH_take (i:=5) (oi:=⟨_,_,_,_,_,_⟩) (v:=undef) rfl (by kernel_rfl) (by kernel_rfl) (by kernel_rfl) (fun _ _ _ h=>h) (Or.inr ⟨by rfl,rfl⟩) (by assumption) ?_
    try simp only [Act.put,List.setIfInBounds_toArray,List.set_cons_zero,List.set_cons_succ]
    refine wpAnyH_take (i:=6) (oi:=⟨_,_,_,_,_,_⟩) (v:=?_) rfl (by kernel_rfl) (by kernel_rfl) (by kernel_rfl) (fun _ _ _ h=>h) (Or.inl ⟨by rfl,?_⟩) (by assumption) ?_
    rotate_left 1
    ·(intro w hSw;(try dsimp only at hSw);go_simp;first | done | with_reducible rfl)
    try simp only [Act.put,List.setIfInBounds_toArray,List.set_cons_zero,List.set_cons_succ]
    refine wpAnyH_take (i:=7) (oi:=⟨_,_,_,_,_,_⟩) (v:=?_) rfl (by kernel_rfl) (by kernel_rfl) (by kernel_rfl) (fun _ _ _ h=>h) (Or.inl ⟨by rfl,?_⟩) (by assumption) ?_
    rotate_left 1
    ·(intro w hSw;(try dsimp only at hSw);go_simp;first | done | with_reducible rfl)
    try simp only [Act.put,List.setIfInBounds_toArray,List.set_cons_zero,List.set_cons_succ]
    refine wpAnyH_take (i:=8) (oi:=⟨_,_,_,_,_,_⟩) (v:=undef) rfl (by kernel_rfl) (by kernel_rfl) (by kernel_rfl) (fun _ _ _ h=>h) (Or.inr ⟨by rfl,rfl⟩) (by assumption) ?_
    try simp only [Act.put,List.setIfInBounds_toArray,List.set_cons_zero,List.set_cons_succ]
    refine wpAnyH_take (i:=9) (oi:=⟨_,_,_,_,_,_⟩) (v:=undef) rfl (by kernel_rfl) (by kernel_rfl) (by kernel_rfl) (fun _ _ _ h=>h) (Or.inr ⟨by rfl,rfl⟩) (by assumption) ?_
    try simp only [Act.put,List.setIfInBounds_toArray,List.set_cons_zero,List.set_cons_succ]
    refine wpAnyH_take (i:=10) (oi:=⟨_,_,_,_,_,_⟩) (v:=undef) rfl (by kernel_rfl) (by kernel_rfl) (by kernel_rfl) (fun _ _ _ h=>h) (Or.inr ⟨by rfl,rfl⟩) (by assumption) ?_
    try simp only [Act.put,List.setIfInBounds_toArray,List.set_cons_zero,List.set_cons_succ]
    refine wpAnyH_take (i:=11) (oi:=⟨_,_,_,_,_,_⟩) (v:=undef) rfl (by kernel_rfl) (by kernel_rfl) (by kernel_rfl) (fun _ _ _ h=>h) (Or.inr ⟨by rfl,rfl⟩) (by assumption) ?_
    try simp only [Act.put,List.setIfInBounds_toArray,List.set_cons_zero,List.set_cons_succ]
    refine wpAnyH_take (i:=12) (oi:=⟨_,_,_,_,_,_⟩) (v:=undef) rfl (by kernel_rfl) (by kernel_rfl) (by kernel_rfl) (fun _ _ _ h=>h) (Or.inr ⟨by rfl,rfl⟩) (by assumption) ?_
    try simp only [Act.put,List.setIfInBounds_toArray,List.set_cons_zero,List.set_cons_succ]
    refine wpAnyH_take (i:=13) (oi:=⟨_,_,_,_,_,_⟩) (v:=?_) rfl (by kernel_rfl) (by kernel_rfl) (by kernel_rfl) (fun _ _ _ h=>h) (Or.inl ⟨by rfl,?_⟩) (by assumption) ?_
    rotate_left 1
    ·(intro w hSw;(try dsimp only at hSw);go_simp;first | done | with_reducible rfl)
    try simp only [Act.put,List.setIfInBounds_toArray]
    refine wpAnyH_done (by kernel_rfl) ?_ _
    refine NoPanic.normal ?_;have HZ2:=hid (I4.out.2.2.trans (And.left hHeld));clear hHeld;go_wp2_with fail;go_ret;exact ⟨rfl,HZ2.out⟩
   | some u =>
    have hrs:=sim_rs HA.out.1;have hcs:cnt (simT t)≤4000:=by have:=(sim_ok t 12 HA.out.1).1.cnt;have:=HA.out.2;omega
    have hcu:=word_cnt s _ u hcs ho;have hap:=word_append s r _ u ho;have hsu:SOk u:=by
     obtain ⟨⟨d,hd,-⟩,-⟩:=word_ok s _ u hrs ho;exact RT_sok u d hd
    have HWo:=hid (show Calls Tryz.prog 10 #[nodeV t a c,.string ⟨s.toArray⟩] w3 (Gives2 w3 (fun _=>True) u 0) from cword_right s (by have:=HF.out.2.1;omega) t HA.out.1 (by have:=HA.out.2;omega) (some u) ho a c (fun _=>True) w3 B3.out.1.lie B3.out.1.le)
    have HU:=hid (And.intro hcu (And.intro hap hsu));clear ho hrs hcs hcu hap hsu;go_wp2_with fail;refine (HWo.out).mono ?_;rintro e w40 ⟨⟨v,rfl,xa,xc,rfl,hle,hlie⟩,q0⟩;have qq:=q0.alloc (.cells (ncells u xa xc) 27);have I4:=hid (And.intro (B3.out.1.keep qq) (And.intro (Nd.new hle hlie) (B3.out.2.trans qq)));clear hle hlie q0 qq d0 d1 d2 d3 d4 d5 d6 d7;go_upto_region 4 with fail
    change Code.wp _ _ _ _ (w40.alloc (.cells (ncells u xa xc) 27))
    generalize (w40.alloc (.cells (ncells u xa xc) 27))=w4 at *;generalize w40.heap.size=n2 at *;have hs:∀ W',Keep (fun _=>False) w4 W'→(fun w'=>Keep (fun _=>False) w4 w'∧w'.cell? ⟨n2,0,none⟩=some (.int .i64 u.kind)∧w'.cell? ⟨n2,1,none⟩=some (.int .u64 u.set.x0)∧w'.cell? ⟨n2,2,none⟩=some (.int .u64 u.set.x1)∧w'.cell? ⟨n2,3,none⟩=some (.int .u64 u.set.x2)∧w'.cell? ⟨n2,4,none⟩=some (.int .u64 u.set.x3)∧w'.cell? ⟨n2,5,none⟩=some (.int .i64 u.mn)∧w'.cell? ⟨n2,6,none⟩=some (.int .i64 u.mx)∧w'.cell? ⟨n2,7,none⟩=some (.slice xa u.subs.length xc)) W':=fun W' q=>by
     obtain ⟨s00,s01,s02,s03,s04,s05,s06,s07⟩:=(cells8 (I4.out.2.1.cell.keep q (fun h=>h))).1
     exact ⟨q,s00,s01,s02,s03,s04,s05,s06,s07⟩
    have HS:=hid hs;clear hs;have HRu:=hid (fun W (qq:Keep (fun _=>False) w4 W)=>fright_any u (by have:=HU.out.1;omega) xa xc W (I4.out.2.1.lie.keepF qq))
    cases hru:rightB u with
    | false =>
     rw [hru] at HRu;clear hru;refine wp_region_noPanic ?_;refine wp_region_held_drew (S:=(fun w'=>Keep (fun _=>False) w4 w'∧w'.cell? ⟨n2,0,none⟩=some (.int .i64 u.kind)∧w'.cell? ⟨n2,1,none⟩=some (.int .u64 u.set.x0)∧w'.cell? ⟨n2,2,none⟩=some (.int .u64 u.set.x1)∧w'.cell? ⟨n2,3,none⟩=some (.int .u64 u.set.x2)∧w'.cell? ⟨n2,4,none⟩=some (.int .u64 u.set.x3)∧w'.cell? ⟨n2,5,none⟩=some (.int .i64 u.mn)∧w'.cell? ⟨n2,6,none⟩=some (.int .i64 u.mx)∧w'.cell? ⟨n2,7,none⟩=some (.slice xa u.subs.length xc))) (by kernel_rfl) ?_ (fun hHeld=>?_)
     ·exact HS.out _ ((Keep.refl _ _).drew)
     refine wpAnyH_take (i:=0) (oi:=⟨_,_,_,_,_,_⟩) (v:=?_) rfl (by kernel_rfl) (by kernel_rfl) (by kernel_rfl) (fun _ _ _ h=>h) (Or.inl ⟨by rfl,?_⟩) (by assumption) ?_
     rotate_left 1
     ·(intro w hSw;(try dsimp only at hSw);go_simp;first | done | with_reducible rfl)
     try simp only [Act.put,List.setIfInBounds_toArray,List.set_cons_zero,List.set_cons_succ]
     refine wpAnyH_take (i:=1) (oi:=⟨_,_,_,_,_,_⟩) (v:=?_) rfl (by kernel_rfl) (by kernel_rfl) (by kernel_rfl) (fun _ _ _ h=>h) (Or.inl ⟨by rfl,?_⟩) (by assumption) ?_
     rotate_left 1
     ·(intro w hSw;(try dsimp only at hSw);go_simp;first | done | with_reducible rfl)
     try simp only [Act.put,List.setIfInBounds_toArray,List.set_cons_zero,List.set_cons_succ]
     refine wpAnyH_take (i:=2) (oi:=⟨_,_,_,_,_,_⟩) (v:=?_) rfl (by kernel_rfl) (by kernel_rfl) (by kernel_rfl) (fun _ _ _ h=>h) (Or.inl ⟨by rfl,?_⟩) (by assumption) ?_
     rotate_left 1
     ·(intro w hSw;(try dsimp only at hSw);go_simp;first | done | with_reducible rfl)
     try simp only [Act.put,List.setIfInBounds_toArray,List.set_cons_zero,List.set_cons_succ]
     refine wpAnyH_take (i:=3) (oi:=⟨_,_,_,_,_,_⟩) (v:=?_) rfl (by kernel_rfl) (by kernel_rfl) (by kernel_rfl) (fun _ _ _ h=>h) (Or.inl ⟨by rfl,?_⟩) (by assumption) ?_
     rotate_left 1
     ·(intro w hSw;(try dsimp only at hSw);go_simp;first | done | with_reducible rfl)
     try simp only [Act.put,List.setIfInBounds_toArray,List.set_cons_zero,List.set_cons_succ]
     refine wpAnyH_ready (rs:=[4]) (by kernel_rfl) (by simp) ?_
     refine AllReadyH.cons (o:=⟨_,_,_,_,_,_⟩) rfl (fun K hK=>?_) AllReadyH.nil
     go_simp
     (go_at_call 11;refine (HRu.out _ (And.left hHeld)).mono ?_;rintro e w5 ⟨rfl,q⟩)
     refine hK.out _ _ ?_ (fun hHeld'=>?_)
     ·exact HS.out _ (Keep.trans (And.left hHeld) q)
     clear hK K hHeld;have hHeld:=hHeld';clear hHeld'
     try simp only [Act.put,List.setIfInBounds_toArray,List.set_cons_zero,List.set_cons_succ]
     refine wpAnyH_take (i:=5) (oi:=⟨_,_,_,_,_,_⟩) (v:=?_) rfl (by kernel_rfl) (by kernel_rfl) (by kernel_rfl) (fun _ _ _ h=>h) (Or.inl ⟨by rfl,?_⟩) (by assumption) ?_
     rotate_left 1
     ·(intro w hSw;(try dsimp only at hSw);go_simp;first | done | with_reducible rfl)
     try simp only [Act.put,List.setIfInBounds_toArray,List.set_cons_zero,List.set_cons_succ]
     refine wpAnyH_take (i:=6) (oi:=⟨_,_,_,_,_,_⟩) (v:=?_) rfl (by kernel_rfl) (by kernel_rfl) (by kernel_rfl) (fun _ _ _ h=>h) (Or.inl ⟨by rfl,?_⟩) (by assumption) ?_
     rotate_left 1
     ·(intro w hSw;(try dsimp only at hSw);go_simp;first | done | with_reducible rfl)
     try simp only [Act.put,List.setIfInBounds_toArray,List.set_cons_zero,List.set_cons_succ]
     refine wpAnyH_take (i:=7) (oi:=⟨_,_,_,_,_,_⟩) (v:=?_) rfl (by kernel_rfl) (by kernel_rfl) (by kernel_rfl) (fun _ _ _ h=>h) (Or.inl ⟨by rfl,?_⟩) (by assumption) ?_
     rotate_left 1
     ·(intro w hSw;(try dsimp only at hSw);go_simp;first | done | with_reducible rfl)
     try simp only [Act.put,List.setIfInBounds_toArray,List.set_cons_zero,List.set_cons_succ]
     refine wpAnyH_take (i:=8) (oi:=⟨_,_,_,_,_,_⟩) (v:=undef) rfl (by kernel_rfl) (by kernel_rfl) (by kernel_rfl) (fun _ _ _ h=>h) (Or.inr ⟨by rfl,rfl⟩) (by assumption) ?_
     try simp only [Act.put,List.setIfInBounds_toArray,List.set_cons_zero,List.set_cons_succ]
     refine wpAnyH_take (i:=9) (oi:=⟨_,_,_,_,_,_⟩) (v:=undef) rfl (by kernel_rfl) (by kernel_rfl) (by kernel_rfl) (fun _ _ _ h=>h) (Or.inr ⟨by rfl,rfl⟩) (by assumption) ?_
     try simp only [Act.put,List.setIfInBounds_toArray,List.set_cons_zero,List.set_cons_succ]
     refine wpAnyH_take (i:=10) (oi:=⟨_,_,_,_,_,_⟩) (v:=undef) rfl (by kernel_rfl) (by kernel_rfl) (by kernel_rfl) (fun _ _ _ h=>h) (Or.inr ⟨by rfl,rfl⟩) (by assumption) ?_
     try simp only [Act.put,List.setIfInBounds_toArray,List.set_cons_zero,List.set_cons_succ]
     refine wpAnyH_take (i:=11) (oi:=⟨_,_,_,_,_,_⟩) (v:=undef) rfl (by kernel_rfl) (by kernel_rfl) (by kernel_rfl) (fun _ _ _ h=>h) (Or.inr ⟨by rfl,rfl⟩) (by assumption) ?_
     try simp only [Act.put,List.setIfInBounds_toArray,List.set_cons_zero,List.set_cons_succ]
     refine wpAnyH_take (i:=12) (oi:=⟨_,_,_,_,_,_⟩) (v:=undef) rfl (by kernel_rfl) (by kernel_rfl) (by kernel_rfl) (fun _ _ _ h=>h) (Or.inr ⟨by rfl,rfl⟩) (by assumption) ?_
     try simp only [Act.put,List.setIfInBounds_toArray,List.set_cons_zero,List.set_cons_succ]
     refine wpAnyH_take (i:=13) (oi:=⟨_,_,_,_,_,_⟩) (v:=?_) rfl (by kernel_rfl) (by kernel_rfl) (by kernel_rfl) (fun _ _ _ h=>h) (Or.inl ⟨by rfl,?_⟩) (by assumption) ?_
     rotate_left 1
     ·(intro w hSw;(try dsimp only at hSw);go_simp;first | done | with_reducible rfl)
     try simp only [Act.put,List.setIfInBounds_toArray]
     refine wpAnyH_done (by kernel_rfl) ?_ _
     refine NoPanic.normal ?_;have HZ2:=hid (I4.out.2.2.trans (And.left hHeld));clear hHeld;go_wp2_with fail;go_ret;exact ⟨rfl,HZ2.out⟩
    | true =>
     have hRu:RT 12 u:=(rightB_iff HU.out.2.2).1 hru;rw [hru] at HRu;have HSi:=hid (fun W (qq:Keep (fun _=>False) w4 W)=>fsimple_any u 12 hRu (by have:=HU.out.1;omega) xa xc (fun _=>True) W (I4.out.2.1.lie.keepF qq) I4.out.2.1.le)
     obtain ⟨E,hE⟩:∃ E,sameB (simT u) u=E:=⟨_,rfl⟩;have HSm:=hid (fun ya yc W (hL:Lie W (fun _=>True) ya (simT u).subs) (qq:Keep (fun _=>False) w4 W)=>same_is (simT u) u ya yc xa xc W hL (I4.out.2.1.lie.keepF qq) hE)
     have HE:=hid (And.intro hE hRu);clear hru hRu hE
     cases E with
     | false =>
      refine wp_region_noPanic ?_;refine wp_region_held_drew (S:=(fun w'=>Keep (fun _=>False) w4 w'∧w'.cell? ⟨n2,0,none⟩=some (.int .i64 u.kind)∧w'.cell? ⟨n2,1,none⟩=some (.int .u64 u.set.x0)∧w'.cell? ⟨n2,2,none⟩=some (.int .u64 u.set.x1)∧w'.cell? ⟨n2,3,none⟩=some (.int .u64 u.set.x2)∧w'.cell? ⟨n2,4,none⟩=some (.int .u64 u.set.x3)∧w'.cell? ⟨n2,5,none⟩=some (.int .i64 u.mn)∧w'.cell? ⟨n2,6,none⟩=some (.int .i64 u.mx)∧w'.cell? ⟨n2,7,none⟩=some (.slice xa u.subs.length xc))) (by kernel_rfl) ?_ (fun hHeld=>?_)
      ·exact HS.out _ ((Keep.refl _ _).drew)
      refine wpAnyH_take (i:=0) (oi:=⟨_,_,_,_,_,_⟩) (v:=?_) rfl (by kernel_rfl) (by kernel_rfl) (by kernel_rfl) (fun _ _ _ h=>h) (Or.inl ⟨by rfl,?_⟩) (by assumption) ?_
      rotate_left 1
      ·(intro w hSw;(try dsimp only at hSw);go_simp;first | done | with_reducible rfl)
      try simp only [Act.put,List.setIfInBounds_toArray,List.set_cons_zero,List.set_cons_succ]
      refine wpAnyH_take (i:=1) (oi:=⟨_,_,_,_,_,_⟩) (v:=?_) rfl (by kernel_rfl) (by kernel_rfl) (by kernel_rfl) (fun _ _ _ h=>h) (Or.inl ⟨by rfl,?_⟩) (by assumption) ?_
      rotate_left 1
      ·(intro w hSw;(try dsimp only at hSw);go_simp;first | done | with_reducible rfl)
      try simp only [Act.put,List.setIfInBounds_toArray,List.set_cons_zero,List.set_cons_succ]
      refine wpAnyH_take (i:=2) (oi:=⟨_,_,_,_,_,_⟩) (v:=?_) rfl (by kernel_rfl) (by kernel_rfl) (by kernel_rfl) (fun _ _ _ h=>h) (Or.inl ⟨by rfl,?_⟩) (by assumption) ?_
      rotate_left 1
      ·(intro w hSw;(try dsimp only at hSw);go_simp;first | done | with_reducible rfl)
      try simp only [Act.put,List.setIfInBounds_toArray,List.set_cons_zero,List.set_cons_succ]
      refine wpAnyH_take (i:=3) (oi:=⟨_,_,_,_,_,_⟩) (v:=?_) rfl (by kernel_rfl) (by kernel_rfl) (by kernel_rfl) (fun _ _ _ h=>h) (Or.inl ⟨by rfl,?_⟩) (by assumption) ?_
      rotate_left 1
      ·(intro w hSw;(try dsimp only at hSw);go_simp;first | done | with_reducible rfl)
      try simp only [Act.put,List.setIfInBounds_toArray,List.set_cons_zero,List.set_cons_succ]
      refine wpAnyH_ready (rs:=[4]) (by kernel_rfl) (by simp) ?_
      refine AllReadyH.cons (o:=⟨_,_,_,_,_,_⟩) rfl (fun K hK=>?_) AllReadyH.nil
      go_simp
      (go_at_call 11;refine (HRu.out _ (And.left hHeld)).mono ?_;rintro e w5 ⟨rfl,q⟩)
      refine hK.out _ _ ?_ (fun hHeld'=>?_)
      ·exact HS.out _ (Keep.trans (And.left hHeld) q)
      clear hK K hHeld;have hHeld:=hHeld';clear hHeld'
      try simp only [Act.put,List.setIfInBounds_toArray,List.set_cons_zero,List.set_cons_succ]
      refine wpAnyH_take (i:=5) (oi:=⟨_,_,_,_,_,_⟩) (v:=?_) rfl (by kernel_rfl) (by kernel_rfl) (by kernel_rfl) (fun _ _ _ h=>h) (Or.inl ⟨by rfl,?_⟩) (by assumption) ?_
      rotate_left 1
      ·(intro w hSw;(try dsimp only at hSw);go_simp;first | done | with_reducible rfl)
      try simp only [Act.put,List.setIfInBounds_toArray,List.set_cons_zero,List.set_cons_succ]
      refine wpAnyH_take (i:=6) (oi:=⟨_,_,_,_,_,_⟩) (v:=?_) rfl (by kernel_rfl) (by kernel_rfl) (by kernel_rfl) (fun _ _ _ h=>h) (Or.inl ⟨by rfl,?_⟩) (by assumption) ?_
      rotate_left 1
      ·(intro w hSw;(try dsimp only at hSw);go_simp;first | done | with_reducible rfl)
      try simp only [Act.put,List.setIfInBounds_toArray,List.set_cons_zero,List.set_cons_succ]
      refine wpAnyH_take (i:=7) (oi:=⟨_,_,_,_,_,_⟩) (v:=?_) rfl (by kernel_rfl) (by kernel_rfl) (by kernel_rfl) (fun _ _ _ h=>h) (Or.inl ⟨by rfl,?_⟩) (by assumption) ?_
      rotate_left 1
      ·(intro w hSw;(try dsimp only at hSw);go_simp;first | done | with_reducible rfl)
      try simp only [Act.put,List.setIfInBounds_toArray,List.set_cons_zero,List.set_cons_succ]
      refine wpAnyH_take (i:=8) (oi:=⟨_,_,_,_,_,_⟩) (v:=?_) rfl (by kernel_rfl) (by kernel_rfl) (by kernel_rfl) (fun _ _ _ h=>h) (Or.inl ⟨by rfl,?_⟩) (by assumption) ?_
      rotate_left 1
      ·(intro w hSw;(try dsimp only at hSw);go_simp;first | done | with_reducible rfl)
      try simp only [Act.put,List.setIfInBounds_toArray,List.set_cons_zero,List.set_cons_succ]
      refine wpAnyH_take (i:=10) (oi:=⟨_,_,_,_,_,_⟩) (v:=?_) rfl (by kernel_rfl) (by kernel_rfl) (by kernel_rfl) (fun _ _ _ h=>h) (Or.inl ⟨by rfl,?_⟩) (by assumption) ?_
      rotate_left 1
      ·(intro w hSw;(try dsimp only at hSw);go_simp;first | done | with_reducible rfl)
      try simp only [Act.put,List.setIfInBounds_toArray,List.set_cons_zero,List.set_cons_succ]
      refine wpAnyH_ready (rs:=[9]) (by kernel_rfl) (by simp) ?_
      refine AllReadyH.cons (o:=⟨_,_,_,_,_,_⟩) rfl (fun K hK=>?_) AllReadyH.nil
      go_simp
      (go_at_call 15;refine (HSi.out _ (And.left hHeld)).mono ?_;rintro e w6 ⟨⟨v,rfl,ya,yc,rfl,hle1,hL1⟩,q⟩)
      refine hK.out _ _ ?_ (fun hHeld'=>?_)
      ·exact HS.out _ (Keep.trans (And.left hHeld) q)
      clear hK K hHeld;have hHeld:=hHeld';clear hHeld'
      try simp only [Act.put,List.setIfInBounds_toArray,List.set_cons_zero,List.set_cons_succ]
      refine wpAnyH_ready (rs:=[11]) (by kernel_rfl) (by simp) ?_
      refine AllReadyH.cons (o:=⟨_,_,_,_,_,_⟩) rfl (fun K hK=>?_) AllReadyH.nil
      go_simp
      (go_at_call 12;refine (HSm.out _ _ _ (hL1.mono fun _ _=>trivial) (And.left hHeld)).mono ?_;rintro e w7 ⟨rfl,q⟩)
      refine hK.out _ _ ?_ (fun hHeld'=>?_)
      ·exact HS.out _ (Keep.trans (And.left hHeld) q)
      clear hK K hHeld;have hHeld:=hHeld';clear hHeld'
      try simp only [Act.put,List.setIfInBounds_toArray,List.set_cons_zero,List.set_cons_succ]
      refine wpAnyH_take (i:=12) (oi:=⟨_,_,_,_,_,_⟩) (v:=?_) rfl (by kernel_rfl) (by kernel_rfl) (by kernel_rfl) (fun _ _ _ h=>h) (Or.inl ⟨by rfl,?_⟩) (by assumption) ?_
      rotate_left 1
      ·(intro w hSw;(try dsimp only at hSw);go_simp;first | done | with_reducible rfl)
      try simp only [Act.put,List.setIfInBounds_toArray,List.set_cons_zero,List.set_cons_succ]
      refine wpAnyH_take (i:=13) (oi:=⟨_,_,_,_,_,_⟩) (v:=?_) rfl (by kernel_rfl) (by kernel_rfl) (by kernel_rfl) (fun _ _ _ h=>h) (Or.inl ⟨by rfl,?_⟩) (by assumption) ?_
      rotate_left 1
      ·(intro w hSw;(try dsimp only at hSw);go_simp;first | done | with_reducible rfl)
      try simp only [Act.put,List.setIfInBounds_toArray]
      refine wpAnyH_done (by kernel_rfl) ?_ _
      refine NoPanic.normal ?_;have HZ2:=hid (I4.out.2.2.trans (And.left hHeld));clear hHeld;go_wp2_with fail;go_ret;exact ⟨rfl,HZ2.out⟩
     | true =>
      refine wp_region_noPanic ?_;refine wp_region_held_drew (S:=(fun w'=>Keep (fun _=>False) w4 w'∧w'.cell? ⟨n2,0,none⟩=some (.int .i64 u.kind)∧w'.cell? ⟨n2,1,none⟩=some (.int .u64 u.set.x0)∧w'.cell? ⟨n2,2,none⟩=some (.int .u64 u.set.x1)∧w'.cell? ⟨n2,3,none⟩=some (.int .u64 u.set.x2)∧w'.cell? ⟨n2,4,none⟩=some (.int .u64 u.set.x3)∧w'.cell? ⟨n2,5,none⟩=some (.int .i64 u.mn)∧w'.cell? ⟨n2,6,none⟩=some (.int .i64 u.mx)∧w'.cell? ⟨n2,7,none⟩=some (.slice xa u.subs.length xc))) (by kernel_rfl) ?_ (fun hHeld=>?_)
      ·exact HS.out _ ((Keep.refl _ _).drew)
      refine wpAnyH_take (i:=0) (oi:=⟨_,_,_,_,_,_⟩) (v:=?_) rfl (by kernel_rfl) (by kernel_rfl) (by kernel_rfl) (fun _ _ _ h=>h) (Or.inl ⟨by rfl,?_⟩) (by assumption) ?_
      rotate_left 1
      ·(intro w hSw;(try dsimp only at hSw);go_simp;first | done | with_reducible rfl)
      try simp only [Act.put,List.setIfInBounds_toArray,List.set_cons_zero,List.set_cons_succ]
      refine wpAnyH_take (i:=1) (oi:=⟨_,_,_,_,_,_⟩) (v:=?_) rfl (by kernel_rfl) (by kernel_rfl) (by kernel_rfl) (fun _ _ _ h=>h) (Or.inl ⟨by rfl,?_⟩) (by assumption) ?_
      rotate_left 1
      ·(intro w hSw;(try dsimp only at hSw);go_simp;first | done | with_reducible rfl)
      try simp only [Act.put,List.setIfInBounds_toArray,List.set_cons_zero,List.set_cons_succ]
      refine wpAnyH_take (i:=2) (oi:=⟨_,_,_,_,_,_⟩) (v:=?_) rfl (by kernel_rfl) (by kernel_rfl) (by kernel_rfl) (fun _ _ _ h=>h) (Or.inl ⟨by rfl,?_⟩) (by assumption) ?_
      rotate_left 1
      ·(intro w hSw;(try dsimp only at hSw);go_simp;first | done | with_reducible rfl)
      try simp only [Act.put,List.setIfInBounds_toArray,List.set_cons_zero,List.set_cons_succ]
      refine wpAnyH_take (i:=3) (oi:=⟨_,_,_,_,_,_⟩) (v:=?_) rfl (by kernel_rfl) (by kernel_rfl) (by kernel_rfl) (fun _ _ _ h=>h) (Or.inl ⟨by rfl,?_⟩) (by assumption) ?_
      rotate_left 1
      ·(intro w hSw;(try dsimp only at hSw);go_simp;first | done | with_reducible rfl)
      try simp only [Act.put,List.setIfInBounds_toArray,List.set_cons_zero,List.set_cons_succ]
      refine wpAnyH_ready (rs:=[4]) (by kernel_rfl) (by simp) ?_
      refine AllReadyH.cons (o:=⟨_,_,_,_,_,_⟩) rfl (fun K hK=>?_) AllReadyH.nil
      go_simp
      (go_at_call 11;refine (HRu.out _ (And.left hHeld)).mono ?_;rintro e w5 ⟨rfl,q⟩)
      refine hK.out _ _ ?_ (fun hHeld'=>?_)
      ·exact HS.out _ (Keep.trans (And.left hHeld) q)
      clear hK K hHeld;have hHeld:=hHeld';clear hHeld'
      try simp only [Act.put,List.setIfInBounds_toArray,List.set_cons_zero,List.set_cons_succ]
      refine wpAnyH_take (i:=5) (oi:=⟨_,_,_,_,_,_⟩) (v:=?_) rfl (by kernel_rfl) (by kernel_rfl) (by kernel_rfl) (fun _ _ _ h=>h) (Or.inl ⟨by rfl,?_⟩) (by assumption) ?_
      rotate_left 1
      ·(intro w hSw;(try dsimp only at hSw);go_simp;first | done | with_reducible rfl)
      try simp only [Act.put,List.setIfInBounds_toArray,List.set_cons_zero,List.set_cons_succ]
      refine wpAnyH_take (i:=6) (oi:=⟨_,_,_,_,_,_⟩) (v:=?_) rfl (by kernel_rfl) (by kernel_rfl) (by kernel_rfl) (fun _ _ _ h=>h) (Or.inl ⟨by rfl,?_⟩) (by assumption) ?_
      rotate_left 1
      ·(intro w hSw;(try dsimp only at hSw);go_simp;first | done | with_reducible rfl)
      try simp only [Act.put,List.setIfInBounds_toArray,List.set_cons_zero,List.set_cons_succ]
      refine wpAnyH_take (i:=7) (oi:=⟨_,_,_,_,_,_⟩) (v:=?_) rfl (by kernel_rfl) (by kernel_rfl) (by kernel_rfl) (fun _ _ _ h=>h) (Or.inl ⟨by rfl,?_⟩) (by assumption) ?_
      rotate_left 1
      ·(intro w hSw;(try dsimp only at hSw);go_simp;first | done | with_reducible rfl)
      try simp only [Act.put,List.setIfInBounds_toArray,List.set_cons_zero,List.set_cons_succ]
      refine wpAnyH_take (i:=8) (oi:=⟨_,_,_,_,_,_⟩) (v:=?_) rfl (by kernel_rfl) (by kernel_rfl) (by kernel_rfl) (fun _ _ _ h=>h) (Or.inl ⟨by rfl,?_⟩) (by assumption) ?_
      rotate_left 1
      ·(intro w hSw;(try dsimp only at hSw);go_simp;first | done | with_reducible rfl)
      try simp only [Act.put,List.setIfInBounds_toArray,List.set_cons_zero,List.set_cons_succ]
      refine wpAnyH_take (i:=10) (oi:=⟨_,_,_,_,_,_⟩) (v:=?_) rfl (by kernel_rfl) (by kernel_rfl) (by kernel_rfl) (fun _ _ _ h=>h) (Or.inl ⟨by rfl,?_⟩) (by assumption) ?_
      rotate_left 1
      ·(intro w hSw;(try dsimp only at hSw);go_simp;first | done | with_reducible rfl)
      try simp only [Act.put,List.setIfInBounds_toArray,List.set_cons_zero,List.set_cons_succ]
      refine wpAnyH_ready (rs:=[9]) (by kernel_rfl) (by simp) ?_
      refine AllReadyH.cons (o:=⟨_,_,_,_,_,_⟩) rfl (fun K hK=>?_) AllReadyH.nil
      go_simp
      (go_at_call 15;refine (HSi.out _ (And.left hHeld)).mono ?_;rintro e w6 ⟨⟨v,rfl,ya,yc,rfl,hle1,hL1⟩,q⟩)
      refine hK.out _ _ ?_ (fun hHeld'=>?_)
      ·exact HS.out _ (Keep.trans (And.left hHeld) q)
      clear hK K hHeld;have hHeld:=hHeld';clear hHeld'
      try simp only [Act.put,List.setIfInBounds_toArray,List.set_cons_zero,List.set_cons_succ]
      refine wpAnyH_ready (rs:=[11]) (by kernel_rfl) (by simp) ?_
      refine AllReadyH.cons (o:=⟨_,_,_,_,_,_⟩) rfl (fun K hK=>?_) AllReadyH.nil
      go_simp
      (go_at_call 12;refine (HSm.out _ _ _ (hL1.mono fun _ _=>trivial) (And.left hHeld)).mono ?_;rintro e w7 ⟨rfl,q⟩)
      refine hK.out _ _ ?_ (fun hHeld'=>?_)
      ·exact HS.out _ (Keep.trans (And.left hHeld) q)
      clear hK K hHeld;have hHeld:=hHeld';clear hHeld'
      try simp only [Act.put,List.setIfInBounds_toArray,List.set_cons_zero,List.set_cons_succ]
      refine wpAnyH_take (i:=12) (oi:=⟨_,_,_,_,_,_⟩) (v:=?_) rfl (by kernel_rfl) (by kernel_rfl) (by kernel_rfl) (fun _ _ _ h=>h) (Or.inl ⟨by rfl,?_⟩) (by assumption) ?_
      rotate_left 1
      ·(intro w hSw;(try dsimp only at hSw);go_simp;first | done | with_reducible rfl)
      try simp only [Act.put,List.setIfInBounds_toArray,List.set_cons_zero,List.set_cons_succ]
      refine wpAnyH_take (i:=13) (oi:=⟨_,_,_,_,_,_⟩) (v:=?_) rfl (by kernel_rfl) (by kernel_rfl) (by kernel_rfl) (fun _ _ _ h=>h) (Or.inl ⟨by rfl,?_⟩) (by assumption) ?_
      rotate_left 1
      ·(intro w hSw;(try dsimp only at hSw);go_simp;first | done | with_reducible rfl)
      try simp only [Act.put,List.setIfInBounds_toArray]
      refine wpAnyH_done (by kernel_rfl) ?_ _
      refine NoPanic.normal ?_;have I5:=hid (And.intro (I4.out.1.keep (And.left hHeld)) (And.intro (I4.out.2.1.keep (And.left hHeld)) (I4.out.2.2.trans (And.left hHeld))));clear hHeld;have hsim:simT u=u:=(sameB_iff _ _).1 HE.out.1
      cases ho2:wordG u r with
      | none =>
       have HWa:=hid (fun W (hL:Lie W (fun _=>True) xa u.subs)=>(show Calls Tryz.prog 10 #[nodeV u xa xc,.string ⟨r.toArray⟩] W (Gives2 W (fun _=>True) zT 11) from cword_right r (by have:=HF.out.2.1;omega) u HE.out.2 HU.out.1 (none) (by rw [hsim];exact ho2) xa xc (fun _=>True) W hL I4.out.2.1.le))
       have hwb:=fun W (hL:Lie W (fun _=>True) a t.subs)=>(show Calls Tryz.prog 10 #[nodeV t a c,.string ⟨(s++r).toArray⟩] W (Gives2 W (fun _=>True) zT 11) from cword_right (s++r) (by rw [List.length_append];have:=HF.out.2.1;omega) t HA.out.1 (by have:=HA.out.2;omega) (none) (by rw [HU.out.2.1];exact ho2) a c (fun _=>True) W hL B3.out.1.le)
       rw [HZ.out] at hwb;have HWb:=hid hwb;clear hwb ho2 hsim;obtain ⟨d0,d1,d2,d3,d4,d5,d6,d7⟩:=(cells8 I5.out.2.1.cell).1;go_wp2_with fail;refine (HWa.out w7 I5.out.2.1.lie).mono ?_;rintro e w100 ⟨⟨v,rfl,ya,yc,rfl,hle,hlie⟩,q0⟩;have qq:=q0.alloc (.cells (ncells zT ya yc) 27);have I6:=hid (And.intro (I5.out.1.keep qq) (And.intro (Nd.new hle hlie) (I5.out.2.2.trans qq)));clear hle hlie q0 qq d0 d1 d2 d3 d4 d5 d6 d7;go_upto_region 7 with fail
       change Code.wp _ _ _ _ (w100.alloc (.cells (ncells zT ya yc) 27))
       generalize (w100.alloc (.cells (ncells zT ya yc) 27))=w10 at *;generalize w100.heap.size=n3 at *;obtain ⟨d0,d1,d2,d3,d4,d5,d6,d7⟩:=(cells8 (I6.out.1).cell).1;go_wp2_with fail;refine (HWb.out w10 I6.out.1.lie).mono ?_;rintro e w110 ⟨⟨v,rfl,za,zc,rfl,hle,hlie⟩,q0⟩;have qq:=q0.alloc (.cells (ncells zT za zc) 27);have I7:=hid (And.intro (I6.out.2.1.keep qq) (And.intro (Nd.new hle hlie) (I6.out.2.2.trans qq)));clear hle hlie q0 qq d0 d1 d2 d3 d4 d5 d6 d7;go_upto_region 8 with fail
       change Code.wp _ _ _ _ (w110.alloc (.cells (ncells zT za zc) 27))
       generalize (w110.alloc (.cells (ncells zT za zc) 27))=w11 at *;generalize w110.heap.size=n4 at *;obtain ⟨d0,d1,d2,d3,d4,d5,d6,d7⟩:=(cells8 I7.out.1.cell).1;obtain ⟨y0,y1,y2,y3,y4,y5,y6,y7⟩:=(cells8 I7.out.2.1.cell).1;have HSx:=hid (same_yes12 zT ya yc za zc w11 I7.out.1.lie I7.out.2.1.lie);go_wp2_with fail;refine HSx.out.mono ?_;rintro e w12 ⟨rfl,q12⟩;have Q12:=hid (I7.out.2.2.trans q12);clear q12 d0 d1 d2 d3 d4 d5 d6 d7 y0 y1 y2 y3 y4 y5 y6 y7;go_wp2_with fail;go_ret;exact ⟨rfl,Q12.out⟩
      | some y =>
       have HWa:=hid (fun W (hL:Lie W (fun _=>True) xa u.subs)=>(show Calls Tryz.prog 10 #[nodeV u xa xc,.string ⟨r.toArray⟩] W (Gives2 W (fun _=>True) y 0) from cword_right r (by have:=HF.out.2.1;omega) u HE.out.2 HU.out.1 (some y) (by rw [hsim];exact ho2) xa xc (fun _=>True) W hL I4.out.2.1.le))
       have hwb:=fun W (hL:Lie W (fun _=>True) a t.subs)=>(show Calls Tryz.prog 10 #[nodeV t a c,.string ⟨(s++r).toArray⟩] W (Gives2 W (fun _=>True) y 0) from cword_right (s++r) (by rw [List.length_append];have:=HF.out.2.1;omega) t HA.out.1 (by have:=HA.out.2;omega) (some y) (by rw [HU.out.2.1];exact ho2) a c (fun _=>True) W hL B3.out.1.le)
       rw [HZ.out] at hwb;have HWb:=hid hwb;clear hwb ho2 hsim;obtain ⟨d0,d1,d2,d3,d4,d5,d6,d7⟩:=(cells8 I5.out.2.1.cell).1;go_wp2_with fail;refine (HWa.out w7 I5.out.2.1.lie).mono ?_;rintro e w100 ⟨⟨v,rfl,ya,yc,rfl,hle,hlie⟩,q0⟩;have qq:=q0.alloc (.cells (ncells y ya yc) 27);have I6:=hid (And.intro (I5.out.1.keep qq) (And.intro (Nd.new hle hlie) (I5.out.2.2.trans qq)));clear hle hlie q0 qq d0 d1 d2 d3 d4 d5 d6 d7;go_upto_region 7 with fail
       change Code.wp _ _ _ _ (w100.alloc (.cells (ncells y ya yc) 27))
       generalize (w100.alloc (.cells (ncells y ya yc) 27))=w10 at *;generalize w100.heap.size=n3 at *;obtain ⟨d0,d1,d2,d3,d4,d5,d6,d7⟩:=(cells8 (I6.out.1).cell).1;go_wp2_with fail;refine (HWb.out w10 I6.out.1.lie).mono ?_;rintro e w110 ⟨⟨v,rfl,za,zc,rfl,hle,hlie⟩,q0⟩;have qq:=q0.alloc (.cells (ncells y za zc) 27);have I7:=hid (And.intro (I6.out.2.1.keep qq) (And.intro (Nd.new hle hlie) (I6.out.2.2.trans qq)));clear hle hlie q0 qq d0 d1 d2 d3 d4 d5 d6 d7;go_upto_region 8 with fail
       change Code.wp _ _ _ _ (w110.alloc (.cells (ncells y za zc) 27))
       generalize (w110.alloc (.cells (ncells y za zc) 27))=w11 at *;generalize w110.heap.size=n4 at *;obtain ⟨d0,d1,d2,d3,d4,d5,d6,d7⟩:=(cells8 I7.out.1.cell).1;obtain ⟨y0,y1,y2,y3,y4,y5,y6,y7⟩:=(cells8 I7.out.2.1.cell).1;have HSx:=hid (same_yes12 y ya yc za zc w11 I7.out.1.lie I7.out.2.1.lie);go_wp2_with fail;refine HSx.out.mono ?_;rintro e w12 ⟨rfl,q12⟩;have Q12:=hid (I7.out.2.2.trans q12);clear q12 d0 d1 d2 d3 d4 d5 d6 d7 y0 y1 y2 y3 y4 y5 y6 y7;go_wp2_with fail;go_ret;exact ⟨rfl,Q12.out⟩
end P12
namespace DeriveWords
open Go.RowKit Base P08 P11 P12
open Go.ChangeShapes Go.WideShapes Go.ChangeAt
theorem walk {H:Type} {enc:TypeId × Value→H} (v0 v1 v2:Value) {d0 d1 d2:DataW H} {p0 p1 p2:List MemPlace} (W:World)
  (k0:Value.okWide Tryz.prog W .any 0 27 v0) (k1:Value.okWide Tryz.prog W .any 0 9 v1) (k2:Value.okWide Tryz.prog W .any 0 9 v2)
  (h0:DataW.Trod enc Tryz.prog W 0 (fun _=>true) true 27 v0 d0 p0) (h1:DataW.Trod enc Tryz.prog W 0 (fun _=>true) true 9 v1 d1 p1) (h2:DataW.Trod enc Tryz.prog W 0 (fun _=>true) true 9 v2 d2 p2)
  (hk:Rows.uptoSmall H [d0,d1,d2]=true) :
  Calls Tryz.prog 5 #[v0,v1,v2] W fun e w'=>e=.returned (.bool true)∧Below W.heap.size W w':=by
 have hb:=of_decide_eq_true hk;obtain ⟨t0,a0,c0,rfl,hc0,hL0,hn0,hs0⟩:=node_arg k0 h0;obtain ⟨l1,rfl,rfl,-⟩:=str_arg11 k1 h1;obtain ⟨l2,rfl,rfl,-⟩:=str_arg11 k2 h2
 simp only [Rows.uptoBulkAll,Rows.uptoBulk] at hb
 exact (law_words t0 a0 c0 W hL0 hc0 (by omega) hs0 l1 l2 (by omega)).mono fun e w' ⟨he,q⟩=>⟨he,q.below (Nat.le_refl _) (fun _ _ h=>h)⟩
end DeriveWords
namespace DeriveWords
open Go.ChangeShapes Go.WideShapes Go.ChangeAt Go.RowKit
set_option linter.unusedVariables false
theorem own:ownKnob Tryz.prog.godebug=none:=by kernel_rfl
theorem laidOut:laidOutB Tryz.prog=true:=by kernel_rfl
theorem contract (H:Type) (enc:TypeId × Value→H) (W:World) (base:Nat) (args:Array Value) (ds gs:List (DataW H)) (before:List MemPlace)
  (hval0:∀ (j:Nat) t v,Tryz.f5.params[j]?=some t→args[j]?=some v→Value.okWide Tryz.prog W .any base t v)
  (hW:DataW.Whole enc Tryz.prog Tryz.f5.params.toList Rows.deriveWordsSpec.vars false W args.toList ds gs before) (hk:Rows.uptoSmall H (ds++gs)=true) :
  Calls Tryz.prog 5 args W fun e W'=>∃ v,e=.returned v∧Rows.deriveWordsSpec.post enc Tryz.prog Tryz.f5 false true false false W args v W':=by
 have hval:∀ (j:Nat) t v,Tryz.f5.params[j]?=some t→args[j]?=some v→Value.okWide Tryz.prog W .any base t v:=hval0;have hW':=hW;obtain ⟨p,q,hA0,hV,rfl,hfz,hnd⟩:=hW;have hA:DataW.TrodAll enc Tryz.prog W 0 (fun _=>true) true Tryz.f5.params.toList args.toList ds p:=hA0
 rw [Tryz.params5] at hA hval;obtain ⟨v0,vs0,d0,ds0,p0,q0,hargs,rfl,rfl,h0,r0⟩:=trodAll_cons hA;obtain ⟨v1,vs1,d1,ds1,p1,q1,rfl,rfl,rfl,h1,r1⟩:=trodAll_cons r0;obtain ⟨v2,vs2,d2,ds2,p2,q2,rfl,rfl,rfl,h2,r2⟩:=trodAll_cons r1;obtain ⟨rfl,rfl,rfl⟩:=trodAll_nil r2;obtain rfl:args=#[v0,v1,v2]:=by cases args;simp_all
 obtain ⟨rfl,rfl⟩:=trodVars_none hV;have lt0:∀ x ∈ p0,x.block<W.heap.size:=by obtain ⟨m,hm⟩:=h0;exact DataW.trod_lt m _ _ _ hm
 have lt1:∀ x ∈ p1,x.block<W.heap.size:=by obtain ⟨m,hm⟩:=h1;exact DataW.trod_lt m _ _ _ hm
 have lt2:∀ x ∈ p2,x.block<W.heap.size:=by obtain ⟨m,hm⟩:=h2;exact DataW.trod_lt m _ _ _ hm
 have hk1:Rows.uptoSmall H [d0,d1,d2]=true:=hk;refine (walk v0 v1 v2 W (hval 0 27 v0 rfl rfl) (hval 1 9 v1 rfl rfl) (hval 2 9 v2 rfl rfl) h0 h1 h2 hk1).mono fun e W' ⟨he,bel⟩=>?_
 subst he;exact ⟨_,rfl,_,_,_,[],_,[],hW',trodAll_mk1 (shut_bool Tryz.underlying4 _),(trodAll_cons_mk (Below.trod laidOut (by kernel_rfl) (of_decide_eq_true (by kernel_rfl)) h0 bel lt0) (trodAll_cons_mk (Below.trod laidOut (by kernel_rfl) (of_decide_eq_true (by kernel_rfl)) h1 bel lt1) (trodAll_cons_mk (Below.trod laidOut (by kernel_rfl) (of_decide_eq_true (by kernel_rfl)) h2 bel lt2) trodAll_mk0))),rfl,bel.frame _,fun h=>by cases h⟩
theorem lifted (os:Os) (started:os.Started) (H:Type) (enc:TypeId × Value→H) (F:Stop.Interp) :
  ReturnsInHanded {} Tryz.checked os 5 .any ((Rows.OpenSpec.upto Rows.deriveWordsSpec).pre6 enc Tryz.prog Tryz.f5 Rows.deriveWordsUptoRow.domain false) (((Rows.OpenSpec.upto Rows.deriveWordsSpec).at F).post enc Tryz.prog Tryz.f5 false true false false):=by
 refine returnsInHanded_of_cond (C:=Tryz.checked) (s:=Rows.OpenSpec.upto Rows.deriveWordsSpec) (k:=Rows.uptoSmall) rfl own started (by kernel_rfl) Tryz.func5
  (OpenSpec.witness (enc:=enc) (C:=Tryz.checked) (s:=Rows.OpenSpec.upto Rows.deriveWordsSpec) (k:=Rows.uptoSmall) rfl false ⟨#[],#[.agg #[.int .i64 0,.int .u64 0,.int .u64 0,.int .u64 0,.int .u64 0,.int .i64 0,.int .i64 0,.slice none 0 0],.string ⟨#[]⟩,.string ⟨#[]⟩],[]⟩ 8 (by kernel_rfl) (by kernel_rfl) (by kernel_rfl)
   (x:=([.agg [.lit (.int .i64 0),.agg [.lit (.int .u64 0),.lit (.int .u64 0),.lit (.int .u64 0),.lit (.int .u64 0)],.lit (.int .i64 0),.lit (.int .i64 0),.nil],.lit (.string []),.lit (.string [])],[],[])) (by kernel_rfl) rfl (by kernel_rfl)) ?_
 intro W base args ds gs before hval hW _ hk _;exact contract H enc W base args ds gs before hval hW hk
theorem over:Rows.deriveWordsUptoRow.holds Tryz.pinned (Rows.OpenSpec.upto Rows.deriveWordsSpec) :=
 OpenClaim.holds_of_cond 5 Tryz.f5 rfl rfl rfl rfl rfl rfl rfl ⟨rfl,rfl,rfl,rfl,rfl⟩ rfl rfl rfl rfl rfl (by kernel_rfl) Tryz.func5 (by kernel_rfl)
  (of_decide_eq_true (by kernel_rfl)) (by unfold Func.isWrapper;first | (rw [if_pos (by decide +kernel)];kernel_rfl) | (rw [if_neg (by decide +kernel)];exact ⟨rfl,rfl⟩))
  (fun os started H enc _ F=>lifted os started H enc F)
theorem proved:Rows.DeriveWordsUptoSaid:=over
#print axioms proved
end DeriveWords
end Go.Proofs.YtlmfbchgkjgljaaGreat

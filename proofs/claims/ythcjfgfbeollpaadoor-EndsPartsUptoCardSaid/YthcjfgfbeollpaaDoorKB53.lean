/- Layer 11: awake answers true. -/
import Derived.Test.YthcjfgfbeollpaaDoorKB49
import Derived.Test.YthcjfgfbeollpaaDoorKB06
import Derived.Test.YthcjfgfbeollpaaDoorKB46
import Derived.Test.YthcjfgfbeollpaaDoorKB52
set_option maxRecDepth 100000
set_option maxHeartbeats 32000000
open Go.Lib (hid)
namespace Go.Proofs.YthcjfgfbeollpaaDoor
namespace P11
open Go.RowKit Base Bytes P07 P08 P09 P10 IL
open Sets (ST)
theorem IL.laid {W:World} (L:List Int) (hl:L.length≤2097152):IL (W.alloc (.cells (L.map (Value.int .i64)).toArray 3)) (.slice (some ⟨W.heap.size,0,none⟩) L.length L.length) L :=
 ⟨by simp,.inr ⟨W.heap.size,L.length,_,rfl,Nat.zero_le _,At.new W _ 3,Nat.le_refl _,by simp only [maxLen];omega,by simp,by simp [List.take_of_length_le]⟩⟩
theorem RS.laid {W:World} (X:List (RU × Option Addr × Nat)) (h:∀ y ∈ X,y.1.re.subs.length≤y.2.2∧Lie W (fun _=>True) y.2.1 y.1.re.subs):RS (W.alloc (.cells (flatU X).toArray 41)) (fun _=>True) (some ⟨W.heap.size,0,none⟩) (X.map (·.1)):=by
 have q:=(Keep.refl (fun _=>False) W).alloc (.cells (flatU X).toArray 41)
 have ha:=At.new W (flatU X).toArray 41;refine .inr ⟨W.heap.size,0,fun i=>(X[i]?.map (·.2.1)).getD none,fun i=>(X[i]?.map (·.2.2)).getD 0,rfl,ha.lt,trivial,fun i x hx=>?_⟩
 rw [List.getElem?_map] at hx
 cases hy:X[i]? with
 | none=>rw [hy] at hx;cases hx
 | some y =>
  rw [hy] at hx
  cases hx
  obtain ⟨h1,h2⟩:=h y (List.mem_of_getElem? hy);have e1:(X[i]?.map (·.2.1)).getD none=y.2.1:=by rw [hy];rfl
  have e2:(X[i]?.map (·.2.2)).getD 0=y.2.2:=by rw [hy];rfl
  dsimp only
  rw [e1,e2];refine ⟨h1,h2.keepF q,fun j v hv=>ha.cell ?_⟩
  have:=flatU_at X i y hy j v hv;rw [Nat.zero_add]
  simpa using this
theorem same11 (va vb:Value) (A B:List Int) (w:World) (ha:IL w va A) (hb:IL w vb B) (hl:A.length≤2097152) :
  Calls Tryd.prog 10 #[va,vb] w fun e w'=>e=.returned (.bool (decide (A=B)))∧Keep (fun _=>False) w w':=by
 refine (same_ref va vb A B w ha hb hl).mono ?_;rintro e w' ⟨rfl,q⟩;exact ⟨rfl,q.keep _⟩
theorem same_yes11 (va vb:Value) (A:List Int) (w:World) (ha:IL w va A) (hb:IL w vb A) (hl:A.length≤2097152) :
  Calls Tryd.prog 10 #[va,vb] w fun e w'=>e=.returned (.bool true)∧Keep (fun _=>False) w w':=by
 refine (same11 va vb A A w ha hb hl).mono ?_;rintro e w' ⟨rfl,q⟩;exact ⟨by simp,q⟩
theorem awake11 (w:World) (hTab:Tab w):Calls Tryd.prog 4 #[] w fun e w'=>e=.returned (.bool true)∧Keep (fun _=>False) w w':=by
 obtain ⟨t1,hp1,ht1,hc1,hr1⟩:=one11_is aw1;obtain ⟨t2,hp2,ht2,hc2,hr2⟩:=one11_is aw2
 simp only [Bool.and_eq_true,decide_eq_true_eq] at ht1 ht2
 have ha3:=aw3
 simp only [Bool.and_eq_true,decide_eq_true_eq] at ha3
 obtain ⟨ta,hpa,hta,hca,hra⟩:=one11_is aw4;obtain ⟨tb,hpb,htb,hcb,hrb⟩:=one11_is hta;obtain ⟨tc,hpc,htc,hcc,hrc⟩:=one11_is htb;obtain ⟨td,hpd,htd,hcd,hrd⟩:=one11_is aw5;obtain ⟨te,hpe,hme1,hme2,hce⟩:=aw6_is;obtain ⟨tf,hpf,htf,hcf,hrf⟩:=one11_is aw7
 simp only [decide_eq_true_eq] at htc htd htf
 have HU:=hid (And.intro (fun W=>text11_any hpa (by decide) (by decide) W) (And.intro (fun W=>text11_any hpb (by decide) (by decide) W) (And.intro (fun W=>text11_any hpc (by decide) (by decide) W) (And.intro (fun W=>text11_any hpd (by decide) (by decide) W) (And.intro (fun W=>text11_any hpe (by decide) (by decide) W) (fun W=>text11_any hpf (by decide) (by decide) W))))))
 have HTab:=hid hTab;clear hTab
 have y1:=fun g W hS (hT:Tab W)=>cbest_any [⟨[],ta⟩,⟨[],tb⟩,⟨[],tc⟩] (some ⟨g,0,none⟩) 3 (by simp) (fun x hx=>by
  simp only [List.mem_cons,List.not_mem_nil,or_false] at hx
  rcases hx with rfl | rfl | rfl
  ·exact ⟨RT_sok _ 12 (read_right hpa),by show cnt ta≤1000000;omega⟩
  ·exact ⟨RT_sok _ 12 (read_right hpb),by show cnt tb≤1000000;omega⟩
  ·exact ⟨RT_sok _ 12 (read_right hpc),by show cnt tc≤1000000;omega⟩) [97,97,98] (by decide) 0 W hS hT
 have y2:=fun g W hS (hT:Tab W)=>cbest_any [⟨[],td⟩] (some ⟨g,0,none⟩) 1 (by simp) (fun x hx=>by
  simp only [List.mem_cons,List.not_mem_nil,or_false] at hx
  rcases hx with rfl
  exact ⟨RT_sok _ 12 (read_right hpd),by show cnt td≤1000000;omega⟩) [98] (by decide) 0 W hS hT
 rw [htc] at y1;rw [htd] at y2;have z1:=fun a c W (hL:Lie W (fun _=>True) a te.subs) (hT:Tab W)=>cmatch_any te (RT_sok _ 12 (read_right hpe)) [97] (by decide) a c W hL hT (by omega)
 have z2:=fun a c W (hL:Lie W (fun _=>True) a te.subs) (hT:Tab W)=>cmatch_any te (RT_sok _ 12 (read_right hpe)) [] (by decide) a c W hL hT (by omega)
 rw [hme1] at z1;rw [hme2] at z2;have z3:=fun a c W (hL:Lie W (fun _=>True) a tf.subs) (hT:Tab W)=>clong_any tf (RT_sok _ 12 (read_right hpf)) [97] (by decide) 0 a c W hL hT (by omega)
 rw [htf] at z3;have HY:=hid (And.intro y1 (And.intro y2 (And.intro z1 (And.intro z2 z3))));clear y1 y2 z1 z2 z3 hpa hta hca hra hpb htb hcb hrb hpc htc hcc hrc hpd htd hcd hrd hpe hme1 hme2 hce hpf htf hcf hrf;have x1:=fun f a c W (hL:Lie W (fun _=>True) a t1.subs) (hT:Tab W)=>call_any t1 (RT_sok t1 12 (read_right hp1)) [97,97,98] (by decide) f a c W hL hT (by omega)
 have x2:=fun a c W (hL:Lie W (fun _=>True) a t2.subs) (hT:Tab W)=>call_any t2 (RT_sok t2 12 (read_right hp2)) [] (by decide) 1 a c W hL hT (by omega)
 have x3:=fun W (hT:Tab W)=>call_any (.nd 0 ST.none 0 0 []) (by rw [SOk,SOkL];exact ⟨ST.none_ok,trivial⟩) [] (by decide) 0 none 0 W (.nil _) hT (by simp [cnt,cntL])
 have x1a:=fun a c W hL hT=>x1 0 a c W hL hT
 have x1b:=fun a c W hL hT=>x1 1 a c W hL hT
 unfold IsAll at x1a x1b x2 x3;rw [ht1.1.1,ht1.1.2] at x1a;rw [ht1.2.1,ht1.2.2] at x1b;rw [ht2.1,ht2.2] at x2;rw [ha3.1,ha3.2] at x3;have HX:=hid (And.intro x1a (And.intro x1b (And.intro x2 x3)));have HT:=hid (And.intro (fun W=>text11_any hp1 (by decide) (by decide) W) (fun W=>text11_any hp2 (by decide) (by decide) W))
 clear x1 x1a x1b x2 x3 ht1 ht2 ha3 hp1 hp2 hc1 hc2 hr1 hr2
 go_enter Tryd.func4,Tryd.ntmps4
 go_wp2_with fail;refine (HT.out.1 w).mono ?_;rintro e w1 ⟨⟨v,rfl,a,c,rfl,hle,hlie⟩,q1⟩;have G:=hid (HX.out.1 a c w1 (hlie.mono fun _ _=>trivial) (HTab.out.keep q1))
 have Q1:=hid q1;clear hle hlie q1;go_wp2_with fail;refine G.out.mono ?_;rintro e w2 ⟨v1,rfl,hil1,-,q2⟩;have I1:=hid (And.intro hil1 (Q1.out.trans q2));clear G hil1 q2 Q1;go_wp2_with fail;refine (HT.out.1 w2).mono ?_;rintro e w3 ⟨⟨v,rfl,a',c',rfl,hle,hlie⟩,q1⟩;have G:=hid (HX.out.2.1 a' c' w3 (hlie.mono fun _ _=>trivial) (HTab.out.keep (I1.out.2.trans q1)))
 have Q1:=hid q1;clear hle hlie q1;go_wp2_with fail;refine G.out.mono ?_;rintro e w4 ⟨v2,rfl,hil2,-,q2⟩;have qq:=Q1.out.trans q2;have I2:=hid (And.intro (I1.out.1.keep qq (fun _ _ h=>h)) (And.intro hil2 (I1.out.2.trans qq)))
 clear G hil2 q2 qq Q1;go_wp2_with fail;refine (HT.out.2 w4).mono ?_;rintro e w5 ⟨⟨v,rfl,b,d,rfl,hle,hlie⟩,q1⟩;have G:=hid (HX.out.2.2.1 b d w5 (hlie.mono fun _ _=>trivial) (HTab.out.keep (I2.out.2.2.trans q1)))
 have Q1:=hid q1;clear hle hlie q1;go_wp2_with fail;refine G.out.mono ?_;rintro e w6 ⟨v3,rfl,-,-,q2⟩;have qq:=Q1.out.trans q2;have I3:=hid (And.intro (I2.out.1.keep qq (fun _ _ h=>h)) (And.intro (I2.out.2.1.keep qq (fun _ _ h=>h)) (I2.out.2.2.trans qq)))
 clear G q2 qq Q1;go_wp2_with fail;refine (HX.out.2.2.2 w6 (HTab.out.keep I3.out.2.2)).mono ?_;rintro e w7 ⟨v4,rfl,-,-,q2⟩;have I4:=hid (And.intro (I3.out.1.keep q2 (fun _ _ h=>h)) (And.intro (I3.out.2.1.keep q2 (fun _ _ h=>h)) (I3.out.2.2.trans q2)))
 clear q2;go_wp2_with fail;refine (HU.out.1 w7).mono ?_;rintro e w8 ⟨⟨v,rfl,a1,c1,rfl,hle1,hlie1⟩,q1⟩;have J1:=hid (And.intro q1 (And.intro hle1 hlie1));clear q1 hle1 hlie1;go_wp2_with fail;refine (HU.out.2.1 w8).mono ?_;rintro e w9 ⟨⟨v,rfl,a2,c2,rfl,hle2,hlie2⟩,q2⟩;have J2:=hid (And.intro (J1.out.1.trans q2) (And.intro hle2 (And.intro hlie2 (J1.out.2.2.keepF q2))));clear q2 hle2 hlie2;go_wp2_with fail;refine (HU.out.2.2.1 w9).mono ?_;rintro e w10 ⟨⟨v,rfl,a3,c3,rfl,hle3,hlie3⟩,q3⟩;have J3:=hid (And.intro (J2.out.1.trans q3) (And.intro hle3 (And.intro hlie3 (And.intro (J2.out.2.2.1.keepF q3) (J2.out.2.2.2.keepF q3)))));clear q3 hle3 hlie3;go_wp2_with fail
 refine (HY.out.1 _ _ (RS.laid [(⟨[],ta⟩,a1,c1),(⟨[],tb⟩,a2,c2),(⟨[],tc⟩,a3,c3)] (fun y hy=>by
  simp only [List.mem_cons,List.not_mem_nil,or_false] at hy
  rcases hy with rfl | rfl | rfl
  ·exact ⟨J1.out.2.1,J3.out.2.2.2.2.mono fun _ _=>trivial⟩
  ·exact ⟨J2.out.2.1,J3.out.2.2.2.1.mono fun _ _=>trivial⟩
  ·exact ⟨J3.out.2.1,J3.out.2.2.1.mono fun _ _=>trivial⟩)) (HTab.out.keep (I4.out.2.2.trans (J3.out.1.alloc _)))).mono ?_
 rintro e w11 ⟨rfl,q4⟩;have qq:=(J3.out.1.alloc _).trans q4;have I5:=hid (And.intro (I4.out.1.keep qq (fun _ _ h=>h)) (And.intro (I4.out.2.1.keep qq (fun _ _ h=>h)) (I4.out.2.2.trans qq)))
 clear q4 qq J1 J2 J3;go_wp2_with fail;refine (HU.out.2.2.2.1 w11).mono ?_;rintro e w12 ⟨⟨v,rfl,a1',c1',rfl,hle1,hlie1⟩,q1⟩;have J1:=hid (And.intro q1 (And.intro hle1 hlie1));clear q1 hle1 hlie1;go_wp2_with fail
 refine (HY.out.2.1 _ _ (RS.laid [(⟨[],td⟩,a1',c1')] (fun y hy=>by
  simp only [List.mem_cons,List.not_mem_nil,or_false] at hy
  rcases hy with rfl
  exact ⟨J1.out.2.1,J1.out.2.2.mono fun _ _=>trivial⟩)) (HTab.out.keep (I5.out.2.2.trans (J1.out.1.alloc _)))).mono ?_
 rintro e w13 ⟨rfl,q4⟩;have qq:=(J1.out.1.alloc _).trans q4;have I6:=hid (And.intro (I5.out.1.keep qq (fun _ _ h=>h)) (And.intro (I5.out.2.1.keep qq (fun _ _ h=>h)) (I5.out.2.2.trans qq)))
 clear q4 qq J1;go_wp2_with fail;refine (same_yes11 v1 _ [0,1,2] _ (I6.out.1.keep ((Keep.refl (fun _=>False) _).alloc _) (fun _ _ h=>h)) (IL.laid [0,1,2] (by simp)) (by simp)).mono ?_
 rintro e w14 ⟨rfl,q⟩;have qq:=((Keep.refl (fun _=>False) w13).alloc _).trans q
 have I7:=hid (And.intro (I6.out.2.1.keep qq (fun _ _ h=>h)) (I6.out.2.2.trans qq))
 clear q qq;go_wp2_with fail;refine (same_yes11 v2 _ [1,2,3] _ (I7.out.1.keep ((Keep.refl (fun _=>False) _).alloc _) (fun _ _ h=>h)) (IL.laid [1,2,3] (by simp)) (by simp)).mono ?_
 rintro e w15 ⟨rfl,q⟩;have I8:=hid (I7.out.2.trans (((Keep.refl (fun _=>False) w14).alloc _).trans q))
 clear q;go_wp2_with fail;refine (HU.out.2.2.2.2.1 w15).mono ?_;rintro e w16 ⟨⟨v,rfl,b1,g1,rfl,hle1,hlie1⟩,q1⟩;have J1:=hid (And.intro q1 (HY.out.2.2.1 b1 g1 w16 (hlie1.mono fun _ _=>trivial) (HTab.out.keep (I8.out.trans q1))))
 clear q1 hle1 hlie1;go_wp2_with fail;refine J1.out.2.mono ?_;rintro e w17 ⟨rfl,q2⟩;have I9:=hid (I8.out.trans (J1.out.1.trans q2));clear q2 J1;go_wp2_with fail;refine (HU.out.2.2.2.2.1 w17).mono ?_;rintro e w18 ⟨⟨v,rfl,b2,g2,rfl,hle1,hlie1⟩,q1⟩;have J1:=hid (And.intro q1 (HY.out.2.2.2.1 b2 g2 w18 (hlie1.mono fun _ _=>trivial) (HTab.out.keep (I9.out.trans q1))))
 clear q1 hle1 hlie1;go_wp2_with fail;refine J1.out.2.mono ?_;rintro e w19 ⟨rfl,q2⟩;have I10:=hid (I9.out.trans (J1.out.1.trans q2));clear q2 J1;go_wp2_with fail;refine (HU.out.2.2.2.2.2 w19).mono ?_;rintro e w20 ⟨⟨v,rfl,b3,g3,rfl,hle1,hlie1⟩,q1⟩;have J1:=hid (And.intro q1 (HY.out.2.2.2.2 b3 g3 w20 (hlie1.mono fun _ _=>trivial) (HTab.out.keep (I10.out.trans q1))))
 clear q1 hle1 hlie1;go_wp2_with fail;refine J1.out.2.mono ?_;rintro e w21 ⟨rfl,q2⟩;have I11:=hid (I10.out.trans (J1.out.1.trans q2));clear q2 J1;go_wp2_with fail;go_ret;exact ⟨rfl,I11.out⟩
end P11
end Go.Proofs.YthcjfgfbeollpaaDoor

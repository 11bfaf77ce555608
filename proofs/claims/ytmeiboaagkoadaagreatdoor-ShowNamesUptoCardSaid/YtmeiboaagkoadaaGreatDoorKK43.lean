/- The document's File (layer 8). -/
import Derived.Test.YtmeiboaagkoadaaGreatDoorKK42
import Derived.Test.YtmeiboaagkoadaaGreatDoorKK12
import Derived.Deep.RegionLaw
namespace Go.Proofs.YtmeiboaagkoadaaGreatDoor.P08
open Go.RowKit Go.Proofs.YtmeiboaagkoadaaGreatDoor.Base Go.Proofs.YtmeiboaagkoadaaGreatDoor.P07
open Go.Proofs.YtmeiboaagkoadaaGreatDoor.Sets (ST)
open Go.Proofs.YtmeiboaagkoadaaGreatDoor.Ref06 (LN OLn joinR)

def ffileV (R : Option (List UInt8)) : Value := match R with
  | some s => .tuple #[Bytes.str s, .bool true]
  | none => .tuple #[Bytes.str [], .bool false]

theorem step_append_run {P : Program} (w : World) {ops : Array Oper} {o : Oper} {a : Act} {K : Act → World → Prop} {Q : Exit → Act → World → Prop} {E : Prop} (hgd : o.guard = none) (s x : Operand) (t tn : TypeId)
    (ho : o.op = .call { callee := .builtin .append, args := #[s, x], argTypes := #[t, tn] }) (vs vx : Value) (hs : a.eval s = vs) (hx : a.eval x = vx)
    (v' : Value) (w' : World) (hr : (Builtin.append_ #[t, tn] o.type #[vs, vx]).run P w = .ok v' w') (h : K (a.put o.dst v') w') :
    if Region.wanted o (yielded ops a.tmps) = true then Oper.wp P o a w K Q else E := by
  have hw : Region.wanted o (yielded ops a.tmps) = true := by simp [Region.wanted, hgd]
  rw [if_pos hw]
  exact Lib.wp_append_run w s x t tn ho vs vx hs hx v' w' hr h

set_option maxRecDepth 100000 in
set_option maxHeartbeats 8000000 in
theorem ffile_any (L : List RU) (a : Option Addr) (cap : Nat) (hl : L.length ≤ 30) (hb : ∀ x ∈ L, x.nm.length ≤ 4000000 ∧ SOk x.re ∧ cnt x.re ≤ 1000) (w : World) (hS : RS w (fun _ => True) a L) :
    Calls Tryz.prog 14 #[.slice a L.length cap] w fun e w' => e = .returned (ffileV (fileR L)) ∧ Keep (fun _ => False) w w' := by
  obtain ⟨R, hR⟩ : ∃ R, fileR L = R := ⟨_, rfl⟩
  rw [hR]
  have H0 := Lib.hid (And.intro hS (And.intro hb hR))
  clear hS hb hR
  go_enter Tryz.func14, Tryz.ntmps14
  go_wp2_with fail
  go_loopg [4, 5] L.length (fun gg v i wr => ∃ k : Nat, i = .int .i64 k ∧ k + gg = L.length ∧ OLn wr v ((L.take k).map lineOf) ∧ (∀ g, v.ownBlock = some g → w.heap.size ≤ g) ∧ (L.take k).all (fun x => rightB x.re) = true ∧ Keep (fun _ => False) w wr)
  case atStart => exact ⟨0, rfl, by omega, OLn.nil _, fun g hg => (by cases hg), rfl, Keep.refl _ _⟩
  case round =>
    obtain ⟨k, rfl, hk, hv, hg, h0, hq⟩ := hrel
    by_cases hlt : k < L.length
    · have hlt' : (k : Int) < L.length := by omega
      have i0 : (0 : Int) ≤ k := by omega
      obtain ⟨x, hx⟩ : ∃ x, L[k]? = some x := ⟨L[k], List.getElem?_eq_getElem hlt⟩
      have hSw := H0.out.1.keepF hq
      obtain ⟨bl, off, a1, e1, rfl, hbl, -, hle, L1, C1⟩ := hSw.get hx
      obtain ⟨c0, c1, c2, c3, c4, c5, c6, c7, c8⟩ := rnine C1
      obtain ⟨hx1, hx2, hx3⟩ := H0.out.2.1 x (List.mem_of_getElem? hx)
      have hcall := fright_any x.re (by omega) a1 e1 wr L1
      have hri : rightB x.re = true → RT 12 x.re := (rightB_iff hx2).1
      obtain ⟨r, hr⟩ : ∃ r, rightB x.re = r := ⟨_, rfl⟩
      rw [hr] at hcall hri
      have H1 := Lib.hid (And.intro hcall (And.intro hx (And.intro hr (And.intro hri (And.intro hv (And.intro hg (And.intro h0 (And.intro hq (And.intro C1 (And.intro hbl (And.intro hx3 L1)))))))))))
      clear hcall hx hr hri hv hg h0 hq C1 L1 hSw hx2 hx3 hbl
      go_wp2_with fail
      refine H1.out.1.mono ?_
      rintro e w2 ⟨rfl, q2⟩
      cases r with
      | false =>
        have Q2 := Lib.hid (H1.out.2.2.2.2.2.2.2.1.trans q2)
        have HR : R = none := by rw [← H0.out.2.2]; exact fileR_no H1.out.2.1 H1.out.2.2.1
        subst HR
        clear q2
        go_wp2_with fail
        refine bodyPost_ret (v := .tuple #[Bytes.str [], .bool false]) (by simp [results, Tryz.results14, go_sem]) rfl ?_
        exact ⟨rfl, Q2.out⟩
      | true =>
        have q12 := H1.out.2.2.2.2.2.2.2.1.trans q2
        have hcs : ∀ w', Keep (fun _ => False) w2 w' → ∀ j v, (rcells x a1 e1)[j]? = some v → w'.cell? ⟨bl, off + k * 9 + j, none⟩ = some v := fun w' q' j v hv => ((q2.trans q').cell (a := ⟨bl, off + k * 9 + j, none⟩) H1.out.2.2.2.2.2.2.2.2.2.1 (fun h => h)).trans (H1.out.2.2.2.2.2.2.2.2.1 j v hv)
        have hft := fun w' (q' : Keep (fun _ => False) w2 w') => ftext_any x.re (by have := H1.out.2.2.2.2.2.2.2.2.2.2.1; omega) 12 (H1.out.2.2.2.1 rfl) a1 e1 w' (H1.out.2.2.2.2.2.2.2.2.2.2.2.keepF (q2.trans q'))
        have hvk := fun w' (q' : Keep (fun _ => False) w2 w') => (H1.out.2.2.2.2.1.keep (q2.trans q') (fun _ _ h => h)).push (lineOf x) (by rw [List.length_map, List.length_take]; omega) 59
        obtain ⟨X, hX⟩ : ∃ X, txt x.re = X := ⟨_, rfl⟩
        rw [hX] at hft
        rw [show lineOf x = ⟨x.nm, X, 0⟩ from by unfold lineOf; rw [hX]] at hvk
        have hmt := map_take H1.out.2.1
        rw [show lineOf x = ⟨x.nm, X, 0⟩ from by unfold lineOf; rw [hX]] at hmt
        have H2 := Lib.hid (And.intro hft (And.intro hvk (And.intro hcs (And.intro q12 hmt))))
        obtain ⟨c0, c1, c2, c3, c4, c5, c6, c7, c8⟩ := rnine (hcs w2 (Keep.refl _ _))
        clear hft hvk hcs q12 hX q2 hmt
        go_upto_region 7 with fail
        go_region_law (first
          | (refine step_append_run _ rfl (.tmp 19) (.tmp 32) 59 59 rfl u4 (.slice (some ⟨w5.heap.size, 0, none⟩) 1 1) (by simp [Act.eval]) (by simp [Act.eval]) v' w6 hrun ?_)
          | (go_simp; go_wp2_with (go_at_call 11; refine (H2.out.1 _ ((Keep.refl _ w2).drew)).mono ?_; rintro e w5 ⟨rfl, q5⟩; have Q5 := Lib.hid (((Keep.refl (fun _ => False) w2).drew).trans q5); clear q5; obtain ⟨d0, -⟩ := rnine (H2.out.2.2.1 w5 Q5.out); obtain ⟨v', w6, hrun, hv6, q6, hb6⟩ := H2.out.2.1 w5 Q5.out; have H6 := Lib.hid (And.intro hv6 (And.intro q6 hb6)); clear hv6 q6 hb6)))
        all_goals
          have q56 := H2.out.2.2.2.1.trans Q5.out
          have hq6 : Keep (fun _ => False) w w6 := q56.next H6.out.2.1 (fun i hi hl => by have := H1.out.2.2.2.2.2.1 i hi; omega)
          have hg6 : ∀ g, v'.ownBlock = some g → w.heap.size ≤ g := fun g hg => by
            rcases H6.out.2.2 g hg with h | h
            · exact H1.out.2.2.2.2.2.1 g h
            · exact Nat.le_trans q56.size h
          have hv6 := H6.out.1
          rw [← H2.out.2.2.2.2] at hv6
          have H7 := Lib.hid (And.intro hv6 (And.intro hg6 (And.intro (all_take H1.out.2.1 H1.out.2.2.2.2.2.2.1 H1.out.2.2.1) hq6)))
          clear q56 hq6 hg6 hv6
          go_wp2_with fail
          go_roundg (L.length - (k + 1))
          case measure => omega
          case rel => exact ⟨k + 1, by go_num, by omega, H7.out.1, H7.out.2.1, H7.out.2.2.1, H7.out.2.2.2⟩
    · have hke : k = L.length := by omega
      subst hke
      rw [List.take_length] at hv h0
      have hRj : R = joinR (L.map lineOf) := by
        rw [← H0.out.2.2]
        unfold fileR
        rw [if_pos h0]
      obtain ⟨a', cap', rfl, hle, hLS, -⟩ := hv.form2
      have hj := Ref06.rjoin_any (L.map lineOf) a' cap' hle (by rw [List.length_map]; exact hl) (fun r hr => by
        obtain ⟨x, hx, rfl⟩ := List.mem_map.1 hr
        obtain ⟨h1, h2, h3⟩ := H0.out.2.1 x hx
        have := txt_len x.re h2
        exact ⟨h1, by show (txt x.re).length ≤ _; omega⟩) wr hLS
      rw [← hRj, List.length_map] at hj
      have H1 := Lib.hid (And.intro hj hq)
      clear hj hq hv h0 hRj hLS hle hg
      rw [List.length_map]
      go_wp2_with fail
      refine H1.out.1.mono ?_
      rintro e w2 ⟨q2, rfl⟩
      have Q2 := Lib.hid (H1.out.2.trans q2)
      clear q2
      cases R with
      | none =>
        go_wp2_with fail
        refine bodyPost_ret (v := .tuple #[Bytes.str [], .bool false]) (by simp [results, Tryz.results14, go_sem]) rfl ?_
        exact ⟨rfl, Q2.out⟩
      | some s =>
        go_wp2_with fail
        refine bodyPost_ret (v := .tuple #[Bytes.str s, .bool true]) (by simp [results, Tryz.results14, go_sem]) rfl ?_
        exact ⟨rfl, Q2.out⟩
end Go.Proofs.YtmeiboaagkoadaaGreatDoor.P08

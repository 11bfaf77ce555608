/- The code's text and Text (layer 8). -/
import Derived.Test.YtmeiboaagkoadaaGreatDoorKK39
import Derived.Laws.EntriesVeiled
namespace Go.Proofs.YtmeiboaagkoadaaGreatDoor.P08
open Go.RowKit Go.Proofs.YtmeiboaagkoadaaGreatDoor.Base Go.Proofs.YtmeiboaagkoadaaGreatDoor.Bytes Go.Proofs.YtmeiboaagkoadaaGreatDoor.P07
open Go.Proofs.YtmeiboaagkoadaaGreatDoor.Sets (ST)
open Go.Proofs.YtmeiboaagkoadaaGreatDoor.Ref06 (write_bd writeByte_bd string_bd)

set_option maxRecDepth 100000 in
set_option maxHeartbeats 2000000 in
theorem ctext_any (t : T) (d : Nat) (hR : RT d t) (hlen : (txt t).length ≤ 3000000000) (bl o : Nat) (a : Option Addr) (c : Nat) (w : World) (hP : NodeP w bl o t a c) (hL : Lie w (fun _ => True) a t.subs) (hT : Tab w) :
    Calls Tryz.prog 17 #[.pointer (some ⟨bl, o, none⟩)] w fun e w' => e = .returned (Bytes.str (txt t)) ∧ Keep (fun _ => False) w w' := by
  have hmf : ∀ (fn : Fn) (first cap : Array Value) (w : World), (Instr.makeFunc fn first cap).run Tryz.prog w = .ok (.func fn first cap) w := fun _ _ _ _ => rfl
  have hd := down_all _ t (Nat.lt_succ_self _) d hR
  unfold DownOk at hd
  obtain ⟨X, hX⟩ : ∃ X, txt t = X := ⟨_, rfl⟩
  rw [hX] at hlen hd ⊢
  have a1 := At.new (w.alloc (.cells #[.pointer none, .slice none 0 0] 67)) #[.nilFunc] 68
  rw [show (w.alloc (.cells #[.pointer none, .slice none 0 0] 67)).heap.size = w.heap.size + 1 from by simp] at a1
  have hB : Ref06.Bd ((w.alloc (.cells #[.pointer none, .slice none 0 0] 67)).alloc (.cells #[.nilFunc] 68)) w.heap.size w.heap.size (.slice none 0 0) (Lib.byteCells []) := ⟨Nat.le_refl _, ⟨_, .inl rfl, (At.new w #[.pointer none, .slice none 0 0] 67).alloc (.cells #[.nilFunc] 68)⟩, ⟨rfl, .inl ⟨rfl, rfl⟩⟩⟩
  have hlt0 := hP.lt
  have htl : 0 < w.heap.size := World.block_lt_of_cell? w _ (hT 0 (by decide))
  have q0 := ((Keep.refl (fun _ => False) w).alloc (.cells #[.pointer none, .slice none 0 0] 67)).alloc (.cells #[.nilFunc] 68)
  have H0 := Lib.hid (And.intro a1 (And.intro hB (And.intro q0 (And.intro hP (And.intro (lie_below hL) (And.intro hT (And.intro hd (And.intro htl hlen))))))))
  have k0 : ((w.alloc (.cells #[.pointer none, .slice none 0 0] 67)).alloc (.cells #[.nilFunc] 68)).cell? ⟨w.heap.size + 1, 0, none⟩ = some .nilFunc := a1.cell (o := 0) rfl
  have f0 := a1.frozen 0
  clear a1 hB q0 hP hL hT hd htl hlen hX hR
  go_enter Tryz.func17, Tryz.ntmps17
  go_upto_region 3 with fail
  generalize ((w.alloc (.cells #[.pointer none, .slice none 0 0] 67)).alloc (.cells #[.nilFunc] 68)) = V at *
  go_upto_region 4 with fail
  have T1 : TB (V.setCell ⟨w.heap.size + 1, 0, none⟩ (downV w.heap.size (w.heap.size + 1))) w.heap.size w.heap.size (w.heap.size + 1) [] := by
    obtain ⟨hA, hB, hq, -, -, hT, -, htl, -⟩ := H0.out
    obtain ⟨p, hp, hc⟩ := hB.cells
    have qs := hq.setCell (p := ⟨w.heap.size + 1, 0, none⟩) (fun h => by have h9 : w.heap.size + 1 < w.heap.size := h; omega) (downV w.heap.size (w.heap.size + 1))
    exact ⟨⟨_, hB.base, ⟨p, hp, hc.setOther (by simp) _⟩, ⟨rfl, .inl ⟨rfl, rfl⟩⟩⟩, hA.set 0 _, by omega, by omega, qs.size, hT.keep qs, htl⟩
  have Q1 : Keep (fun _ => False) w (V.setCell ⟨w.heap.size + 1, 0, none⟩ (downV w.heap.size (w.heap.size + 1))) := H0.out.2.2.1.setCell (p := ⟨w.heap.size + 1, 0, none⟩) (fun h => by have h9 : w.heap.size + 1 < w.heap.size := h; omega) (downV w.heap.size (w.heap.size + 1))
  change Code.wp _ _ _ _ (V.setCell ⟨w.heap.size + 1, 0, none⟩ (downV w.heap.size (w.heap.size + 1)))
  generalize (V.setCell ⟨w.heap.size + 1, 0, none⟩ (downV w.heap.size (w.heap.size + 1))) = W1 at *
  have kg : W1.cell? ⟨w.heap.size + 1, 0, none⟩ = some (downV w.heap.size (w.heap.size + 1)) := T1.fn.cell (o := 0) rfl
  have H1 := Lib.hid (And.intro T1 Q1)
  clear T1 Q1 k0 f0
  go_wp2_with fail
  refine (H0.out.2.2.2.2.2.2.1 bl o a c W1 w.heap.size w.heap.size (w.heap.size + 1) [] (H0.out.2.2.2.1.keepF H1.out.2) hlt0 (H0.out.2.2.2.2.1.keepF H1.out.2) H1.out.1 (by have := H0.out.2.2.2.2.2.2.2.2; simp; omega)).mono ?_
  rintro e w2 ⟨rfl, t2, q2⟩
  obtain ⟨v, hv⟩ := t2.bd
  rw [List.nil_append] at hv
  have hstr := string_bd w.heap.size w.heap.size v X w2 hv (Nat.le_trans H1.out.2.size q2.size)
  have H2 := Lib.hid (And.intro hstr (H1.out.2.next q2 (fun i hi hl => by omega)))
  clear hstr t2 q2 hv kg
  go_wp2_with fail
  refine H2.out.1.mono ?_
  rintro e w3 ⟨rfl, q3⟩
  have q7 : Keep (fun i => w.heap.size ≤ i) w2 w3 := ⟨q3.os, q3.tape, q3.output, q3.size, fun i _ hn => q3.block i (Nat.lt_of_not_le hn)⟩
  have Q7 := Lib.hid (H2.out.2.next q7 (fun i hi hl => by omega))
  clear q3 q7
  go_wp2_with fail
  go_ret
  exact ⟨rfl, Q7.out⟩

/-- What Text hands back. -/
def textV (t : T) : Value := if rightB t = true then .tuple #[Bytes.str (txt t), .int .i64 0] else .tuple #[Bytes.str [], .int .i64 1]
theorem RT_len {t : T} (hs : SOk t) (hc : cnt t ≤ 1000000) : (txt t).length ≤ 3000000000 := by
  have := txt_len t hs
  omega

set_option maxRecDepth 100000 in
set_option maxHeartbeats 2000000 in
/-- THE CODE'S TEXT. -/
theorem cText_any (t : T) (hs : SOk t) (hc : cnt t ≤ 1000000) (a : Option Addr) (c : Nat) (w : World) (hL : Lie w (fun _ => True) a t.subs) (hT : Tab w) :
    Calls Tryz.prog 7 #[nodeV t a c] w fun e w' => e = .returned (textV t) ∧ Keep (fun _ => False) w w' := by
  have a0 := At.new w (ncells t a c) 27
  have q := (Keep.refl (fun _ => False) w).alloc (.cells (ncells t a c) 27)
  have hP := NodeP.of_at a0
  obtain ⟨r, hr⟩ : ∃ r, rightB t = r := ⟨_, rfl⟩
  have hcall := fun (W : World) (h : Keep (fun _ => False) w W) => cRight_any t hs a c W (hL.keepF h)
  rw [hr] at hcall
  have hv : textV t = if r = true then .tuple #[Bytes.str (txt t), .int .i64 0] else .tuple #[Bytes.str [], .int .i64 1] := by unfold textV; rw [hr]
  obtain ⟨X, hX⟩ : ∃ X, txt t = X := ⟨_, rfl⟩
  rw [hX] at hv
  rw [hv]
  have H0 := Lib.hid (And.intro hP (And.intro q (And.intro hcall (And.intro hL (And.intro hT (And.intro hr (And.intro hs hX)))))))
  clear hP q hcall hL hT hr hv hX
  obtain ⟨c0, c1, c2, c3, c4, c5, c6, c7⟩ := H0.out.1.eight
  go_enter Tryz.func7, Tryz.ntmps7
  go_upto_region 2 with fail
  generalize (w.alloc (.cells (ncells t a c) 27)) = W at *
  go_wp2_with fail
  refine (H0.out.2.2.1 _ H0.out.2.1).mono ?_
  rintro e w1 ⟨rfl, q1⟩
  cases r with
  | false =>
    have Q1 := Lib.hid (H0.out.2.1.trans q1)
    clear q1
    go_wp2_with fail
    refine bodyPost_ret (v := .tuple #[Bytes.str [], .int .i64 1]) (by simp [results, Tryz.results7, go_sem]) rfl ?_
    exact ⟨rfl, Q1.out⟩
  | true =>
    have hR : RT 12 t := (rightB_iff H0.out.2.2.2.2.2.2.1).1 H0.out.2.2.2.2.2.1
    have ht := ctext_any t 12 hR (RT_len hs hc) w.heap.size 0 a c w1 (H0.out.1.keepF q1) (H0.out.2.2.2.1.keepF (H0.out.2.1.trans q1)) (H0.out.2.2.2.2.1.keep (H0.out.2.1.trans q1))
    rw [H0.out.2.2.2.2.2.2.2] at ht
    have Q1 := Lib.hid (And.intro ht (H0.out.2.1.trans q1))
    clear q1 ht hR
    go_wp2_with fail
    refine Q1.out.1.mono ?_
    rintro e w2 ⟨rfl, q2⟩
    have Q2 := Lib.hid (Q1.out.2.trans q2)
    clear q2
    go_wp2_with fail
    refine bodyPost_ret (v := .tuple #[Bytes.str X, .int .i64 0]) (by simp [results, Tryz.results7, go_sem]) rfl ?_
    exact ⟨rfl, Q2.out⟩
end Go.Proofs.YtmeiboaagkoadaaGreatDoor.P08

/- The code's File (layer 8). -/
import Derived.Test.YtmeiboaagkoadaaGreatDoorKK41
import Derived.Test.YtmeiboaagkoadaaGreatDoorKK39
import Derived.Test.YtmeiboaagkoadaaGreatDoorKK29
import Derived.Test.YtmeiboaagkoadaaGreatDoorKK12
namespace Go.Proofs.YtmeiboaagkoadaaGreatDoor.P08
open Go.RowKit Go.Proofs.YtmeiboaagkoadaaGreatDoor.Base Go.Proofs.YtmeiboaagkoadaaGreatDoor.P07
open Go.Proofs.YtmeiboaagkoadaaGreatDoor.Sets (ST)
open Go.Proofs.YtmeiboaagkoadaaGreatDoor.Bytes (Tab)
open Go.Proofs.YtmeiboaagkoadaaGreatDoor.Ref06 (LN OLr joinR)

/-- A rule's line. -/
def lineOf (x : RU) : LN := ⟨x.nm, txt x.re, 0⟩
/-- Rules as a file. -/
def fileR (L : List RU) : Option (List UInt8) := if L.all (fun x => rightB x.re) = true then joinR (L.map lineOf) else none
def fileV (R : Option (List UInt8)) : Value := match R with
  | some s => .tuple #[Bytes.str s, .int .i64 0]
  | none => .tuple #[Bytes.str [], .int .i64 1]
theorem fileR_no {L : List RU} {i : Nat} {x : RU} (h : L[i]? = some x) (hr : rightB x.re = false) : fileR L = none := by
  unfold fileR
  rw [if_neg]
  intro hall
  have := List.all_eq_true.1 hall x (List.mem_of_getElem? h)
  rw [hr] at this
  cases this
theorem all_take {L : List RU} {i : Nat} {x : RU} (h : L[i]? = some x) (h0 : (L.take i).all (fun x => rightB x.re) = true) (hr : rightB x.re = true) : (L.take (i + 1)).all (fun x => rightB x.re) = true := by
  rw [List.take_add_one, h, List.all_append, h0]
  simp [hr]
theorem map_take {L : List RU} {i : Nat} {x : RU} (h : L[i]? = some x) : (L.take (i + 1)).map lineOf = (L.take i).map lineOf ++ [lineOf x] := by
  rw [List.take_add_one, h, List.map_append]
  rfl

set_option maxRecDepth 100000 in
set_option maxHeartbeats 4000000 in
theorem cfile_any (L : List RU) (a : Option Addr) (cap : Nat) (hl : L.length ≤ 30) (hb : ∀ x ∈ L, x.nm.length ≤ 4000000 ∧ SOk x.re ∧ cnt x.re ≤ 1000) (w : World) (hS : RS w (fun _ => True) a L) (hT : Tab w) :
    Calls Tryz.prog 13 #[.slice a L.length cap] w fun e w' => e = .returned (fileV (fileR L)) ∧ Keep (fun _ => False) w w' := by
  obtain ⟨R, hR⟩ : ∃ R, fileR L = R := ⟨_, rfl⟩
  rw [hR]
  have H0 := Lib.hid (And.intro hS (And.intro hT (And.intro hb hR)))
  clear hS hT hb hR
  go_enter Tryz.func13, Tryz.ntmps13
  go_wp2_with fail
  go_loopg [4, 5, 6, 7, 10] L.length (fun gg v i5 s6 s7 i wr => ∃ k : Nat, i = .int .i64 k ∧ k + gg = L.length ∧ OLr wr v ((L.take k).map lineOf) ∧ (∀ g, v.ownBlock = some g → w.heap.size ≤ g) ∧ (L.take k).all (fun x => rightB x.re) = true ∧ Keep (fun _ => False) w wr)
  case atStart => exact ⟨0, rfl, by omega, OLr.nil _, fun g hg => (by cases hg), rfl, Keep.refl _ _⟩
  case round =>
    obtain ⟨k, rfl, hk, hv, hg, h0, hq⟩ := hrel
    by_cases hlt : k < L.length
    · have hlt' : (k : Int) < L.length := by omega
      have i0 : (0 : Int) ≤ k := by omega
      obtain ⟨x, hx⟩ : ∃ x, L[k]? = some x := ⟨L[k], List.getElem?_eq_getElem hlt⟩
      have hSw := H0.out.1.keepF hq
      obtain ⟨bl, off, a1, e1, rfl, hbl, -, hle, L1, C1⟩ := hSw.get hx
      obtain ⟨c0, c1, c2, c3, c4, c5, c6, c7, c8⟩ := rnine C1
      obtain ⟨hx1, hx2, hx3⟩ := H0.out.2.2.1 x (List.mem_of_getElem? hx)
      have hcall := cText_any x.re hx2 (by omega) a1 e1 wr L1 (H0.out.2.1.keep hq)
      obtain ⟨r, hr⟩ : ∃ r, rightB x.re = r := ⟨_, rfl⟩
      obtain ⟨X, hX⟩ : ∃ X, txt x.re = X := ⟨_, rfl⟩
      unfold textV at hcall
      rw [hr, hX] at hcall
      have H1 := Lib.hid (And.intro hcall (And.intro hx (And.intro hr (And.intro hX (And.intro hv (And.intro hg (And.intro h0 (And.intro hq (And.intro C1 hbl)))))))))
      clear hcall hx hr hX hv hg h0 hq C1 L1 hSw hx2 hx3 hbl
      go_wp2_with fail
      refine H1.out.1.mono ?_
      rintro e w2 ⟨rfl, q2⟩
      cases r with
      | false =>
        have Q2 := Lib.hid (H1.out.2.2.2.2.2.2.2.1.trans q2)
        have HR : R = none := by rw [← H0.out.2.2.2]; exact fileR_no H1.out.2.1 H1.out.2.2.1
        subst HR
        clear q2
        rw [if_neg (by decide)]
        go_wp2_with fail
        refine bodyPost_ret (v := .tuple #[Bytes.str [], .int .i64 1]) (by simp [results, Tryz.results13, go_sem]) rfl ?_
        exact ⟨rfl, Q2.out⟩
      | true =>
        rw [if_pos rfl]
        have q12 := H1.out.2.2.2.2.2.2.2.1.trans q2
        have C2 : ∀ j v, (rcells x a1 e1)[j]? = some v → w2.cell? ⟨bl, off + k * 9 + j, none⟩ = some v := fun j v hv => (q2.cell (a := ⟨bl, off + k * 9 + j, none⟩) H1.out.2.2.2.2.2.2.2.2.2 (fun h => h)).trans (H1.out.2.2.2.2.2.2.2.2.1 j v hv)
        have d0 := (rnine C2).1
        obtain ⟨v', w3, hrun, hv3, q3, hb3⟩ := (H1.out.2.2.2.2.1.keep q2 (fun _ _ h => h)).push (lineOf x) (by rw [List.length_map, List.length_take]; omega) 55
        rw [show lineOf x = ⟨x.nm, X, 0⟩ from by unfold lineOf; rw [H1.out.2.2.2.1]] at hrun
        rw [← map_take H1.out.2.1] at hv3
        have hq3 : Keep (fun _ => False) w w3 := q12.next q3 (fun i hi hl => by have := H1.out.2.2.2.2.2.1 i hi; omega)
        have hg3 : ∀ g, v'.ownBlock = some g → w.heap.size ≤ g := fun g hg => by
          rcases hb3 g hg with h | h
          · exact H1.out.2.2.2.2.2.1 g h
          · exact Nat.le_trans q12.size h
        have H3 := Lib.hid (And.intro hv3 (And.intro hg3 (And.intro (all_take H1.out.2.1 H1.out.2.2.2.2.2.2.1 H1.out.2.2.1) hq3)))
        clear q2 q12 C2 hv3 q3 hb3 hq3 hg3
        go_wp2_with (at_builtin; refine Lib.wpList_append_run _ rfl _ _ _ _ rfl _ _ rfl rfl _ _ hrun ?_)
        clear hrun
        go_wp2_with fail
        go_roundg (L.length - (k + 1))
        case measure => omega
        case rel => exact ⟨k + 1, by go_num, by omega, H3.out.1, H3.out.2.1, H3.out.2.2.1, H3.out.2.2.2⟩
    · have hke : k = L.length := by omega
      subst hke
      rw [List.take_length] at hv h0
      have hRj : R = joinR (L.map lineOf) := by
        rw [← H0.out.2.2.2]
        unfold fileR
        rw [if_pos h0]
      obtain ⟨a', cap', rfl, hle, hLS, -⟩ := hv.form2
      have hj := Ref06.join_any (L.map lineOf) a' cap' hle (by rw [List.length_map]; exact hl) (fun r hr => by
        obtain ⟨x, hx, rfl⟩ := List.mem_map.1 hr
        obtain ⟨h1, h2, h3⟩ := H0.out.2.2.1 x hx
        have := txt_len x.re h2
        exact ⟨h1, by show (txt x.re).length ≤ _; omega⟩) wr hLS
      rw [← hRj, List.length_map] at hj
      have H1 := Lib.hid (And.intro hj hq)
      clear hj hq hv h0 hRj hLS hle hg
      rw [List.length_map]
      go_wp2_with fail
      refine H1.out.1.mono ?_
      rintro e w2 ⟨q2, rfl⟩
      have Q2 := Lib.hid (H1.out.2.trans q2)
      clear q2
      cases R with
      | none =>
        go_wp2_with fail
        refine bodyPost_ret (v := .tuple #[Bytes.str [], .int .i64 1]) (by simp [results, Tryz.results13, go_sem]) rfl ?_
        exact ⟨rfl, Q2.out⟩
      | some s =>
        go_wp2_with fail
        refine bodyPost_ret (v := .tuple #[Bytes.str s, .int .i64 0]) (by simp [results, Tryz.results13, go_sem]) rfl ?_
        exact ⟨rfl, Q2.out⟩
end Go.Proofs.YtmeiboaagkoadaaGreatDoor.P08

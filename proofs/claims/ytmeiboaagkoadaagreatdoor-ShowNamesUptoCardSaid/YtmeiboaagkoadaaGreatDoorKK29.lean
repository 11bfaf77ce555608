/- Package rules: Join, against the document's. -/
import Derived.Test.YtmeiboaagkoadaaGreatDoorKK28
import Derived.Test.YtmeiboaagkoadaaGreatDoorKK24
namespace Go.Proofs.YtmeiboaagkoadaaGreatDoor.Ref06
open Go.RowKit Go.Proofs.YtmeiboaagkoadaaGreatDoor.Base

/-- What the code's Join answers. -/
def IsJoinC (R : Option (List UInt8)) (w : World) (e : Ending) (w' : World) : Prop := Keep (fun _ => False) w w' ∧ e = .returned (match R with | some s => .tuple #[str s, .int .i64 0] | none => .tuple #[str [], .int .i64 1])

theorem file_cells {L : List LN} {k : Nat} {r : LN} (h : L[k]? = some r) : Lib.byteCells (fileTo L k) ++ Lib.byteCells r.name ++ [.int .u8 58] ++ Lib.byteCells r.text ++ [.int .u8 10] = Lib.byteCells (fileTo L (k + 1)) := by
  rw [fileTo_succ h]
  simp [Lib.byteCells]

set_option maxRecDepth 100000 in
set_option maxHeartbeats 4000000 in
theorem join_any (L : List LN) (a : Option Addr) (cap : Nat) (hcap : L.length ≤ cap) (hl : L.length ≤ 30) (hb : ∀ r ∈ L, r.name.length ≤ 4000000 ∧ r.text.length ≤ 4000000) (w : World) (hL : LS w a L) :
    Calls Tryz.prog 24 #[.slice a L.length cap] w (IsJoinC (joinR L) w) := by
  have hfit := fits_any L a cap hcap hl hb w hL
  obtain ⟨R, hR⟩ : ∃ R, joinR L = R := ⟨_, rfl⟩
  rw [hR] at hfit ⊢
  have HL := Lib.hid (And.intro (fun (w' : World) (q : Keep (fun _ => False) w w') => hL.keep q (fun _ _ h => h)) hb)
  clear hL hb
  cases R with
  | none =>
    simp only [Option.isSome_none] at hfit
    have HF := Lib.hid hfit
    clear hfit hR
    go_enter Tryz.func24, Tryz.ntmps24
    go_wp2_with fail
    refine HF.out.mono ?_
    rintro e w1 ⟨rfl, q1⟩
    have Q1 := Lib.hid q1
    clear q1
    go_wp2_with fail
    exact bodyPost_ret (v := .tuple #[str [], .int .i64 1]) (by simp [results, Tryz.results24, go_sem]) rfl ⟨Q1.out, rfl⟩
  | some s =>
    simp only [Option.isSome_some] at hfit
    have hs : s = fileTo L L.length := by
      unfold joinR at hR
      split at hR
      · injection hR with hR
        exact hR.symm
      · cases hR
    have HF := Lib.hid (And.intro hfit hs)
    clear hfit hR hs
    go_enter Tryz.func24, Tryz.ntmps24
    go_wp2_with fail
    refine HF.out.1.mono ?_
    rintro e w1 ⟨rfl, q1⟩
    have Q1 := Lib.hid q1
    clear q1
    go_wp2_with fail
    have b0 := Bd.fresh w1 w1.heap.size (Nat.le_refl _)
    have q0 := Q1.out.alloc (.cells #[.pointer none, .slice none 0 0] 67)
    have hsz : w.heap.size ≤ w1.heap.size := Q1.out.size
    have hlt0 : w1.heap.size < (w1.alloc (.cells #[.pointer none, .slice none 0 0] 67)).heap.size := by simp
    generalize (w1.alloc (.cells #[.pointer none, .slice none 0 0] 67)) = W0 at *
    generalize w1.heap.size = b at *
    have HS := Lib.hid hsz
    have B0 := Lib.hid (And.intro b0 (And.intro q0 hlt0))
    clear b0 q0 hsz hlt0
    go_loopg [6, 12] L.length (fun gg _ i wr => ∃ (k : Nat) (v : Value), i = .int .i64 k ∧ k + gg = L.length ∧ Bd wr b b v (Lib.byteCells (fileTo L k)) ∧ b < wr.heap.size ∧ Keep (fun _ => False) w wr)
    case atStart => exact ⟨0, .slice none 0 0, rfl, by omega, B0.out.1, B0.out.2.2, B0.out.2.1⟩
    case round =>
      obtain ⟨k, v, rfl, hk, hbd, hbl, hq⟩ := hrel
      by_cases hlt : k < L.length
      · have hlt' : (k : Int) < L.length := by omega
        obtain ⟨r, hr⟩ : ∃ r, L[k]? = some r := ⟨L[k], List.getElem?_eq_getElem hlt⟩
        have hls := HL.out.1 _ hq
        obtain ⟨bl, off, rfl, -, c0, c1, c2⟩ := hls.get hr
        have hbr := HL.out.2 r (List.mem_of_getElem? hr)
        have hfl := fileTo_len (k := k) (by omega) HL.out.2
        have hfc := file_cells hr
        have hb0 : ∀ c, (Lib.byteCells c).length = c.length := fun c => Lib.byteCells_length c
        have a1 := At.new wr (lcells r) 57
        have qa := (Keep.refl (fun _ => False) wr).alloc (.cells (lcells r) 57)
        have bd1 := hbd.keep qa (fun _ h => h)
        have hn : wr.heap.size ≠ b := by omega
        have hb1 : b ≤ (wr.alloc (.cells (lcells r) 57)).heap.size := by simp; omega
        have H := Lib.hid (And.intro a1 (And.intro bd1 (And.intro hn (And.intro hb1 (And.intro (hq.trans qa) (And.intro hfc hfl))))))
        clear a1 qa bd1 hn hb1 hfc hls hr hbd hq hb0
        go_wp2_with fail
        refine (write_bd b b v _ r.name _ H.out.2.1 (by rw [Lib.byteCells_length]; have := H.out.2.2.2.2.2.2; omega) H.out.2.2.2.1).mono ?_
        rintro e w2 ⟨rfl, v2, hb2, q2⟩
        have a2 := H.out.2.1.side H.out.1 (by decide) H.out.2.2.1 q2
        have H2 := Lib.hid (And.intro hb2 (And.intro a2 (And.intro (H.out.2.1.next H.out.2.2.2.2.1 HS.out q2) (Nat.le_trans H.out.2.2.2.1 q2.size))))
        clear hb2 a2 q2
        go_wp2_with fail
        refine (writeByte_bd b b v2 _ 58 _ H2.out.1 (by simp only [List.length_append, Lib.byteCells_length]; have := H.out.2.2.2.2.2.2; omega) H2.out.2.2.2).mono ?_
        rintro e w3 ⟨rfl, v3, hb3, q3⟩
        have a3 := H2.out.1.side H2.out.2.1 (by decide) H.out.2.2.1 q3
        have c3 := a3.cell (o := 1) rfl
        have H3 := Lib.hid (And.intro hb3 (And.intro a3 (And.intro (H2.out.1.next H2.out.2.2.1 HS.out q3) (Nat.le_trans H2.out.2.2.2 q3.size))))
        clear hb3 a3 q3
        go_wp2_with fail
        refine (write_bd b b v3 _ r.text _ H3.out.1 (by simp only [List.length_append, Lib.byteCells_length, List.length_singleton]; have := H.out.2.2.2.2.2.2; omega) H3.out.2.2.2).mono ?_
        rintro e w4 ⟨rfl, v4, hb4, q4⟩
        have H4 := Lib.hid (And.intro hb4 (And.intro (H3.out.1.next H3.out.2.2.1 HS.out q4) (Nat.le_trans H3.out.2.2.2 q4.size)))
        clear hb4 q4 c3
        go_wp2_with fail
        refine (writeByte_bd b b v4 _ 10 _ H4.out.1 (by simp only [List.length_append, Lib.byteCells_length, List.length_singleton]; have := H.out.2.2.2.2.2.2; omega) H4.out.2.2).mono ?_
        rintro e w5 ⟨rfl, v5, hb5, q5⟩
        have hlt5 : b < w5.heap.size := by
          obtain ⟨p, -, ha⟩ := hb5.cells
          exact ha.lt
        rw [H.out.2.2.2.2.2.1] at hb5
        have H5 := Lib.hid (And.intro hb5 (And.intro hlt5 (H4.out.1.next H4.out.2.1 HS.out q5)))
        clear hb5 hlt5 q5
        go_wp2_with fail
        go_roundg (L.length - (k + 1))
        case measure => omega
        case rel => exact ⟨k + 1, v5, by go_num, by omega, H5.out.1, H5.out.2.1, H5.out.2.2⟩
      · have hke : k = L.length := by omega
        subst hke
        have hstr := string_bd b b v (fileTo L L.length) wr hbd (by omega)
        rw [← HF.out.2] at hstr
        have H := Lib.hid (And.intro hstr hq)
        clear hstr hbd hq
        go_wp2_with fail
        refine H.out.1.mono ?_
        rintro e w6 ⟨rfl, q6⟩
        have q7 : Keep (fun i => b ≤ i) wr w6 := ⟨q6.os, q6.tape, q6.output, q6.size, fun i _ hn => q6.block i (Nat.lt_of_not_le hn)⟩
        have Q7 := Lib.hid (H.out.2.next q7 (fun i hi hl => by have := HS.out; omega))
        clear q6 q7
        go_wp2_with fail
        exact bodyPost_ret (v := .tuple #[str s, .int .i64 0]) (by simp [results, Tryz.results24, go_sem]) rfl ⟨Q7.out, rfl⟩
end Go.Proofs.YtmeiboaagkoadaaGreatDoor.Ref06

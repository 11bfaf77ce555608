/- The document's Split (layer 6). -/
import Derived.Test.YtcdemlfkoknekaaOLn06
namespace Go.Proofs.Ytcdemlfkoknekaa.Ref06
open Go.RowKit Go.Proofs.Ytcdemlfkoknekaa.Base

/-- The line from a up to t, where it is right. -/
def lineOf (l : List UInt8) (a t : Nat) : LN := ⟨sub l a (nmEnd l a t), sub l (nmEnd l a t + 1) t, (nmEnd l a t + 1 : Nat)⟩
/-- Line by line from a on; out: the rules ahead. -/
def splitF (l : List UInt8) : Nat → Nat → List LN → Nat ⊕ List LN
  | 0, _, out => .inr out
  | f + 1, a, out =>
    if l.length < a then .inr out
    else if a = endN l a ∨ byteAt l a = 35 then splitF l f (endN l a + 1) out
    else if bad l a (endN l a) = true then .inl (nmEnd l a (endN l a))
    else if findL out (lineOf l a (endN l a)).name = true ∨ out.length = 8 then .inl a
    else splitF l f (endN l a + 1) (out ++ [lineOf l a (endN l a)])
def last (n : Nat) : Nat ⊕ List LN → Nat ⊕ List LN
  | .inl b => .inl b
  | .inr [] => .inl n
  | .inr out => .inr out
def splitR (l : List UInt8) : Nat ⊕ List LN := if 1000 < l.length then .inl 1000 else last l.length (splitF l (l.length + 1) 0 [])

/-- What Split answers. -/
def IsSplit (R : Nat ⊕ List LN) (w : World) (e : Ending) (w' : World) : Prop := ∃ v n, e = .returned (.tuple #[v, .int .i64 n]) ∧ Keep (fun _ => False) w w' ∧ ((∃ b : Nat, R = .inl b ∧ v = .slice none 0 0 ∧ n = b) ∨ (∃ out, R = .inr out ∧ OLn w' v out ∧ n = -1))

theorem end_is {l : List UInt8} {B : ByteArray} (hB : (⟨l.toArray⟩ : ByteArray) = B) (hl : l.length ≤ 1000) {a : Nat} (ha : a ≤ l.length) (w : World) : Calls Try.prog 20 #[.string B, .int .i64 a] w fun e w' => e = .returned (.int .i64 (endN l a)) ∧ w = w' := by
  rw [← hB]
  exact end_any l (by omega) a ha w

set_option maxRecDepth 100000 in
set_option maxHeartbeats 2000000 in
theorem rsplit_any (l : List UInt8) (w : World) : Calls Try.prog 10 #[str l] w (IsSplit (splitR l) w) := by
  have hs := size_str l
  have hix := index_run l
  obtain ⟨B, hB⟩ : ∃ B : ByteArray, (⟨l.toArray⟩ : ByteArray) = B := ⟨_, rfl⟩
  unfold str at hix ⊢
  rw [hB] at hs hix ⊢
  have HB := Lib.hid (And.intro hB hix)
  clear hB hix
  by_cases hlen : 1000 < l.length
  · have hR : splitR l = .inl 1000 := by unfold splitR; rw [if_pos hlen]
    rw [hR]
    have hlen' : (1000 : Int) < l.length := by omega
    go_enter Try.func10, Try.ntmps10
    go_wp2_with fail
    exact bodyPost_ret (v := .tuple #[.slice none 0 0, .int .i64 1000]) (by simp [results, Try.results10, go_sem]) rfl ⟨_, _, rfl, Keep.refl _ _, .inl ⟨1000, rfl, rfl, rfl⟩⟩
  · have hlen' : ¬ (1000 : Int) < l.length := by omega
    obtain ⟨R, hR⟩ : ∃ R, splitR l = R := ⟨_, rfl⟩
    obtain ⟨F, hF⟩ : ∃ F, splitF l (l.length + 1) 0 [] = F := ⟨_, rfl⟩
    have hRF : R = last l.length F := by rw [← hR, ← hF]; unfold splitR; rw [if_neg hlen]
    rw [hR]
    have HR := Lib.hid (And.intro hRF hF)
    clear hR hRF hF
    go_enter Try.func10, Try.ntmps10
    go_wp2_with fail
    go_loopg [4, 5] (l.length + 1) (fun gg u i wr => ∃ (a : Nat) (out : List LN), i = .int .i64 a ∧ l.length + 1 ≤ a + gg ∧ a ≤ l.length + 1 ∧ out.length ≤ 8 ∧ OLn wr u out ∧ (∀ g, u.ownBlock = some g → w.heap.size ≤ g) ∧ Keep (fun _ => False) w wr ∧ splitF l gg a out = F)
    case atStart => exact ⟨0, [], rfl, by omega, by omega, by simp, OLn.nil _, fun g hg => (by cases hg), Keep.refl _ _, HR.out.2⟩
    case round =>
      obtain ⟨a, out, rfl, hag, hal, ho8, hu, hb, hq, hE⟩ := hrel
      by_cases hlt : a ≤ l.length
      · have hlt' : (a : Int) ≤ l.length := by omega
        obtain ⟨f, rfl⟩ : ∃ f, gk = f + 1 := ⟨gk - 1, by omega⟩
        rw [splitF, if_neg (by omega)] at hE
        have hge := endN_ge l a
        have hle := endN_le hlt
        have hend := fun w => end_is HB.out.1 (by omega) hlt w
        obtain ⟨t, ht⟩ : ∃ t, endN l a = t := ⟨_, rfl⟩
        rw [ht] at hE hge hle hend
        by_cases hskip : a = t ∨ byteAt l a = 35
        · rw [if_pos hskip] at hE
          have H := Lib.hid (And.intro hag (And.intro hu (And.intro hb (And.intro hq (And.intro hE (And.intro ho8 hend))))))
          clear hag hu hb hq hE hend ht
          by_cases hat : a = t
          · have hat' : ((a : Int) == t) = true := by simp; omega
            have HAT := Lib.hid hat
            clear hat hskip
            go_wp2_with fail
            refine (H.out.2.2.2.2.2.2 wr).mono ?_
            rintro e w2 ⟨rfl, rfl⟩
            go_wp2_with fail
            refine (H.out.2.2.2.2.2.2 wr).mono ?_
            rintro e w2 ⟨rfl, rfl⟩
            go_wp2_with fail
            go_roundg f
            case measure => omega
            case rel => exact ⟨t + 1, out, by go_num, by have := H.out.1; omega, by omega, H.out.2.2.2.2.2.1, H.out.2.1, H.out.2.2.1, H.out.2.2.2.1, H.out.2.2.2.2.1⟩
          · have hat' : ((a : Int) == t) = false := by simp; omega
            have h35 : byteAt l a = 35 := by
              rcases hskip with h | h
              · exact absurd h hat
              · exact h
            have hi := HB.out.2 a (by omega)
            rw [h35] at hi
            have HAT := Lib.hid hat
            clear hat hskip h35
            go_wp2_with fail
            refine (H.out.2.2.2.2.2.2 wr).mono ?_
            rintro e w2 ⟨rfl, rfl⟩
            go_wp2_with fail
            refine (H.out.2.2.2.2.2.2 wr).mono ?_
            rintro e w2 ⟨rfl, rfl⟩
            go_wp2_with fail
            go_roundg f
            case measure => omega
            case rel => exact ⟨t + 1, out, by go_num, by have := H.out.1; omega, by omega, H.out.2.2.2.2.2.1, H.out.2.1, H.out.2.2.1, H.out.2.2.2.1, H.out.2.2.2.2.1⟩
        · rw [if_neg hskip] at hE
          have hat : a ≠ t := fun h => hskip (.inl h)
          have hat' : ((a : Int) == t) = false := by simp; omega
          have hi := HB.out.2 a (by omega)
          obtain ⟨c, hc⟩ : ∃ c, byteAt l a = c := ⟨_, rfl⟩
          have hc35 : ((c : Int) == 35) = false := by
            have : c ≠ 35 := fun h => hskip (.inr (hc.trans h))
            simp; omega
          rw [hc] at hi
          have hrule := fun w => rule_any l (by omega) a t hge hle w
          rw [show str l = .string B from by unfold str; rw [HB.out.1]] at hrule
          have hnle : nmEnd l a t ≤ t := scan_le l t 12 a hge
          by_cases hbad : bad l a t = true
          · rw [if_pos hbad] at hE
            simp only [if_pos hbad] at hrule
            obtain ⟨b, hb'⟩ : ∃ b, nmEnd l a t = b := ⟨_, rfl⟩
            rw [hb'] at hE hrule hnle
            have hRb : R = .inl b := by rw [HR.out.1, ← hE]; rfl
            have H := Lib.hid (And.intro hq (And.intro hend (And.intro hrule hRb)))
            clear hag hu hb hq hE hend ht hrule hRb hskip hat hc hbad hb'
            go_wp2_with fail
            refine (H.out.2.1 wr).mono ?_
            rintro e w2 ⟨rfl, rfl⟩
            go_wp2_with fail
            refine (H.out.2.2.1 wr).mono ?_
            rintro e w2 ⟨rfl, q2⟩
            have Q := Lib.hid q2
            clear q2
            have hb0 : (0 : Int) ≤ b := by omega
            go_wp2_with fail
            exact bodyPost_ret (v := .tuple #[.slice none 0 0, .int .i64 b]) (by simp [results, Try.results10, go_sem]) rfl ⟨_, _, rfl, (H.out.1.trans Q.out).alloc _, .inl ⟨b, H.out.2.2.2, rfl, rfl⟩⟩
          · rw [if_neg hbad] at hE
            simp only [if_neg hbad] at hrule
            obtain ⟨r, hr⟩ : ∃ r, lineOf l a t = r := ⟨_, rfl⟩
            have hrule' : ∀ w, Calls Try.prog 21 #[.string B, .int .i64 a, .int .i64 t] w fun e w' => e = .returned (.tuple #[lineV r.name r.text r.place, .int .i64 (-1)]) ∧ Keep (fun _ => False) w w' := by rw [← hr]; exact hrule
            clear hrule
            rw [hr] at hE
            obtain ⟨ua, uc, rfl, hls, -⟩ := hu.form
            obtain ⟨z, hz⟩ : ∃ z, findL out r.name = z := ⟨_, rfl⟩
            rw [hz] at hE
            have H := Lib.hid (And.intro hag (And.intro hu (And.intro hb (And.intro hq (And.intro hE (And.intro hend (And.intro hrule' (And.intro hls hz))))))))
            clear hag hu hb hq hE hend ht hrule' hskip hat hc hbad hr hls hz hnle
            go_wp2_with fail
            refine (H.out.2.2.2.2.2.1 wr).mono ?_
            rintro e w2 ⟨rfl, rfl⟩
            go_wp2_with fail
            refine (H.out.2.2.2.2.2.2.1 wr).mono ?_
            rintro e w2 ⟨rfl, q2⟩
            have Q := Lib.hid q2
            clear q2
            go_wp2_with fail
            have ql := Q.out.alloc (.cells (lcells r) 32)
            refine (find_any out ua uc r.name (by omega) _ (H.out.2.2.2.2.2.2.2.1.keep ql (fun _ _ h => h))).mono ?_
            rintro e w3 ⟨rfl, rfl⟩
            rw [H.out.2.2.2.2.2.2.2.2]
            have hE := H.out.2.2.2.2.1
            have aw := At.new w2 (lcells r) 32
            have hu3 := H.out.2.1.keep (Q.out.trans ((Keep.refl _ _).alloc (.cells (lcells r) 32))) (fun _ _ h => h)
            have hq3 := H.out.2.2.2.1.trans ql
            have hw2 : wr.heap.size ≤ w2.heap.size := Q.out.size
            have H3 := Lib.hid (And.intro aw (And.intro hu3 (And.intro hq3 hw2)))
            clear aw hu3 hq3 ql hw2
            generalize (w2.alloc (.cells (lcells r) 32)) = W3 at *
            generalize w2.heap.size = n7 at *
            by_cases hstop : z = true ∨ out.length = 8
            · rw [if_pos hstop] at hE
              have hRa : R = .inl a := by rw [HR.out.1, ← hE]; rfl
              have HRa := Lib.hid hRa
              clear hRa hE
              cases z
              · have h8 : ((out.length : Int) == 8) = true := by
                  rcases hstop with h | h
                  · cases h
                  · simp; omega
                clear hstop
                go_wp2_with fail
                exact bodyPost_ret (v := .tuple #[.slice none 0 0, .int .i64 a]) (by simp [results, Try.results10, go_sem]) rfl ⟨_, _, rfl, H3.out.2.2.1, .inl ⟨a, HRa.out, rfl, rfl⟩⟩
              · clear hstop
                go_wp2_with fail
                exact bodyPost_ret (v := .tuple #[.slice none 0 0, .int .i64 a]) (by simp [results, Try.results10, go_sem]) rfl ⟨_, _, rfl, H3.out.2.2.1, .inl ⟨a, HRa.out, rfl, rfl⟩⟩
            · rw [if_neg hstop] at hE
              have hz0 : z = false := by cases z with | false => rfl | true => exact absurd (.inl rfl) hstop
              subst hz0
              have hne : out.length ≠ 8 := fun h => hstop (.inr h)
              have h8 : ((out.length : Int) == 8) = false := by simp; omega
              have c0 := H3.out.1.cell (o := 0) rfl
              have c1 := H3.out.1.cell (o := 1) rfl
              have c2 := H3.out.1.cell (o := 2) rfl
              obtain ⟨v', w4, hrun, hv4, q4, hb4⟩ := H3.out.2.1.push r (by omega) 27
              have hq4 : Keep (fun _ => False) w w4 := H3.out.2.2.1.next q4 (fun i hi hl => by have := H.out.2.2.1 i hi; omega)
              have hb5 : ∀ g, v'.ownBlock = some g → w.heap.size ≤ g := fun g hg => by
                rcases hb4 g hg with h | h
                · exact H.out.2.2.1 g h
                · exact Nat.le_trans H3.out.2.2.1.size h
              have hl9 : (out ++ [r]).length ≤ 8 := by simp; omega
              have H4 := Lib.hid (And.intro hE (And.intro hv4 (And.intro hb5 (And.intro hq4 hl9))))
              clear hE hv4 hb5 hq4 q4 hb4 hstop hne hl9
              go_wp2_with (at_builtin; refine Lib.wpList_append_run _ rfl _ _ _ _ rfl _ _ rfl rfl _ _ hrun ?_)
              clear hrun
              go_wp2_with fail
              refine (H.out.2.2.2.2.2.1 w4).mono ?_
              rintro e w5 ⟨rfl, rfl⟩
              go_wp2_with fail
              go_roundg f
              case measure => omega
              case rel => exact ⟨t + 1, out ++ [r], by go_num, by have := H.out.1; omega, by omega, H4.out.2.2.2.2, H4.out.2.1, H4.out.2.2.1, H4.out.2.2.2.1, H4.out.1⟩
      · have hae : a = l.length + 1 := by omega
        have hEF : F = .inr out := by
          rw [← hE]
          cases gk with
          | zero => rfl
          | succ f => rw [splitF, if_pos (by omega)]
        have hRo : R = last l.length (.inr out) := by rw [HR.out.1, hEF]
        have hlt' : ¬ (a : Int) ≤ l.length := by omega
        have H := Lib.hid (And.intro hu (And.intro hb (And.intro hq hRo)))
        obtain ⟨ua, uc, rfl, -, -⟩ := hu.form
        clear hag hu hb hq hE hEF hRo
        cases out with
        | nil =>
          have hn0 : ((([] : List LN).length : Int) == 0) = true := rfl
          go_wp2_with fail
          exact bodyPost_ret (v := .tuple #[.slice none 0 0, .int .i64 l.length]) (by simp [results, Try.results10, go_sem]) rfl ⟨_, _, rfl, H.out.2.2.1, .inl ⟨l.length, H.out.2.2.2, rfl, rfl⟩⟩
        | cons r rs =>
          have hRr : R = .inr (r :: rs) := H.out.2.2.2
          have HRr := Lib.hid hRr
          clear hRr
          have hn0 : (((r :: rs).length : Int) == 0) = false := by simp; omega
          generalize r :: rs = out at *
          go_wp2_with fail
          exact bodyPost_ret (v := .tuple #[.slice ua out.length uc, .int .i64 (-1)]) (by simp [results, Try.results10, go_sem]) rfl ⟨_, _, rfl, H.out.2.2.1, .inr ⟨out, HRr.out, H.out.1, rfl⟩⟩
end Go.Proofs.Ytcdemlfkoknekaa.Ref06

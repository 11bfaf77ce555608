/- Layer 8: awake answers true. -/
import Derived.Test.YtmeiboaagkoadaaDoorKK45
import Derived.Test.YtmeiboaagkoadaaDoorKK47
import Derived.Test.YtmeiboaagkoadaaDoorKK37
import Derived.Test.YtmeiboaagkoadaaDoorKK21
import Derived.Test.YtmeiboaagkoadaaDoorKK06
namespace Go.Proofs.YtmeiboaagkoadaaDoor.P08
open Go.RowKit Go.Proofs.YtmeiboaagkoadaaDoor.Base Go.Proofs.YtmeiboaagkoadaaDoor.P07
open Go.Proofs.YtmeiboaagkoadaaDoor.Sets (ST)
open Go.Proofs.YtmeiboaagkoadaaDoor.Bytes (Tab)
open Go.Proofs.YtmeiboaagkoadaaDoor.Ref06 (LN)

/-- Parse of a text that is right. -/
theorem parse_right8 {F : Nat} {l : List UInt8} {t : T} (h : parse F l = .inr t) (hF : l.length + 2 ≤ F) (hl : l.length ≤ 100000000) (w : World) :
    Calls Tryd.prog 7 #[Bytes.str l] w fun e w' => ∃ a c, e = .returned (.tuple #[nodeV t a c, .int .i64 0, .int .i64 0]) ∧ t.subs.length ≤ c ∧ Lie w' (fun k => w.heap.size ≤ k) a t.subs ∧ Keep (fun _ => False) w w' := by
  refine (regex_any F l hF hl w).mono ?_
  rintro e w' ⟨hP, q⟩
  rw [h] at hP
  obtain ⟨v, rfl, a, c, rfl, hle, hL⟩ := hP
  exact ⟨a, c, rfl, hle, hL, q⟩
/-- .. that is wrong. -/
theorem parse_wrong8 {F : Nat} {l : List UInt8} {p : Nat} (h : parse F l = .inl p) (hF : l.length + 2 ≤ F) (hl : l.length ≤ 100000000) (w : World) :
    Calls Tryd.prog 7 #[Bytes.str l] w fun e w' => e = .returned (.tuple #[.agg nzeros, .int .i64 p, .int .i64 6]) ∧ Keep (fun _ => False) w w' := by
  refine (regex_any F l hF hl w).mono ?_
  rintro e w' ⟨hP, q⟩
  rw [h] at hP
  exact ⟨hP, q⟩
/-- What stands in the rules of a file is right. -/
theorem rulesL_right {F : Nat} : ∀ (M : List LN) (out L : List RU), rulesL F M out = .inr L → (∀ x ∈ out, RT 12 x.re) → ∀ x ∈ L, RT 12 x.re
  | [], out, L, h, ho => by
    rw [rulesL] at h
    injection h with h
    subst h
    exact ho
  | r :: M, out, L, h, ho => by
    rw [rulesL] at h
    cases hp : parse F r.text with
    | inl p => rw [hp] at h; cases h
    | inr t =>
      rw [hp] at h
      refine rulesL_right M _ L h (fun x hx => ?_)
      rcases List.mem_append.1 hx with hx | hx
      · exact ho x hx
      · rw [List.mem_singleton.1 hx]
        exact read_right hp
theorem rulesR_right {F : Nat} {l : List UInt8} {L : List RU} (h : rulesR F l = .inr L) : ∀ x ∈ L, RT 12 x.re := by
  unfold rulesR at h
  split at h
  · cases h
  · exact rulesL_right _ [] L h (by simp)

def awT (F : Nat) (l : List UInt8) : List UInt8 × Bool := match parse F l with
  | .inr t => (txt t, decide (cnt t ≤ 1000))
  | .inl _ => ([], false)
theorem aw1 : awT 10 [40, 97, 124, 98, 41, 99, 43] = ([40, 97, 124, 98, 41, 99, 43], true) := by kernel_rfl
def awF (F : Nat) (l : List UInt8) : Nat × Option (List UInt8) × Bool := match rulesR F l with
  | .inr L => (L.length, fileR L, L.all fun x => decide (x.nm.length ≤ 1000) && decide (cnt x.re ≤ 1000))
  | .inl _ => (0, none, false)
theorem aw2 : awF 1010 [120, 58, 97, 124, 10, 121, 58, 98, 123, 50, 44, 50, 125] = (2, some [120, 58, 97, 124, 10, 121, 58, 98, 123, 50, 125, 10], true) := by kernel_rfl
theorem aw3 : rulesR 1010 [120, 58, 97, 10, 121, 58, 40] = .inl 7 := by kernel_rfl
theorem aw4 : rightB (.nd 0 zS 0 0 []) = false := by kernel_rfl
theorem aw5 : rightB (.nd 3 zS 0 0 []) = false := by kernel_rfl

/-- An expression in block n. -/
structure Nd (W : World) (n : Nat) (t : T) (a : Option Addr) (c : Nat) : Prop where
  cell : At W n 28 (ncells t a c)
  lie : Lie W (fun _ => True) a t.subs
  le : t.subs.length ≤ c
theorem Nd.keep {W W' : World} {n : Nat} {t : T} {a : Option Addr} {c : Nat} (h : Nd W n t a c) (q : Keep (fun _ => False) W W') : Nd W' n t a c := ⟨h.cell.keep q (fun h => h), h.lie.keepF q, h.le⟩
theorem Nd.new {W : World} {t : T} {a : Option Addr} {c : Nat} {ok : Nat → Prop} (hle : t.subs.length ≤ c) (hL : Lie W ok a t.subs) : Nd (W.alloc (.cells (ncells t a c) 28)) W.heap.size t a c :=
  ⟨At.new W _ _, (hL.mono (fun _ _ => trivial)).keepF ((Keep.refl (fun _ => False) W).alloc _), hle⟩

set_option maxRecDepth 100000 in
set_option maxHeartbeats 8000000 in
theorem awake_true (w : World) (hT : Tab w) : Calls Tryd.prog 6 #[] w fun e w' => e = .returned (.bool true) ∧ Keep (fun _ => False) w w' := by
  obtain ⟨t, ht, htx, hct⟩ : ∃ t, parse 10 [40, 97, 124, 98, 41, 99, 43] = .inr t ∧ txt t = [40, 97, 124, 98, 41, 99, 43] ∧ cnt t ≤ 1000 := by
    have h := aw1
    unfold awT at h
    cases hp : parse 10 [40, 97, 124, 98, 41, 99, 43] with
    | inl p => rw [hp] at h; cases h
    | inr t =>
      rw [hp] at h
      injection h with h1 h2
      exact ⟨t, rfl, h1, of_decide_eq_true h2⟩
  have hRt := read_right ht
  have hst := RT_sok t 12 hRt
  have hrt := (rightB_iff hst).2 hRt
  obtain ⟨L, hL, hL2, hLf, hLa⟩ : ∃ L, rulesR 1010 [120, 58, 97, 124, 10, 121, 58, 98, 123, 50, 44, 50, 125] = .inr L ∧ L.length = 2 ∧ fileR L = some [120, 58, 97, 124, 10, 121, 58, 98, 123, 50, 125, 10] ∧ (L.all fun x => decide (x.nm.length ≤ 1000) && decide (cnt x.re ≤ 1000)) = true := by
    have h := aw2
    unfold awF at h
    cases hp : rulesR 1010 [120, 58, 97, 124, 10, 121, 58, 98, 123, 50, 44, 50, 125] with
    | inl p => rw [hp] at h; cases h
    | inr L =>
      rw [hp] at h
      injection h with h1 h2
      injection h2 with h2 h3
      exact ⟨L, rfl, h1, h2, h3⟩
  have hb : ∀ x ∈ L, x.nm.length ≤ 4000000 ∧ SOk x.re ∧ cnt x.re ≤ 1000 := fun x hx => by
    have h1 := List.all_eq_true.1 hLa x hx
    rw [Bool.and_eq_true] at h1
    have h2 := of_decide_eq_true h1.1
    exact ⟨by omega, RT_sok x.re 12 (rulesR_right hL x hx), of_decide_eq_true h1.2⟩
  have HC := Lib.hid (fun W => parse_right8 ht (by decide) (by decide) W)
  have hte : textV t = .tuple #[Bytes.str [40, 97, 124, 98, 41, 99, 43], .int .i64 0] := by unfold textV; rw [if_pos hrt, htx]
  have HX := Lib.hid (And.intro hte (And.intro hst (And.intro hct hrt)))
  have HZ := Lib.hid (show textV (.nd 0 zS 0 0 []) = .tuple #[Bytes.str [], .int .i64 1] from by unfold textV; rw [aw4]; rfl)
  have hzs : SOk (.nd 0 zS 0 0 []) := by rw [SOk, SOkL]; exact ⟨ST.none_ok, trivial⟩
  have hzs3 : SOk (.nd 3 zS 0 0 []) := by rw [SOk, SOkL]; exact ⟨ST.none_ok, trivial⟩
  have HR := Lib.hid (fun W => crules_any 1010 (by decide) [120, 58, 97, 124, 10, 121, 58, 98, 123, 50, 44, 50, 125] (by decide) W)
  have HR2 := Lib.hid (fun W => crules_any 1010 (by decide) [120, 58, 97, 10, 121, 58, 40] (by decide) W)
  have HL := Lib.hid (And.intro hL (And.intro hL2 (And.intro hLf (And.intro hb (And.intro hT (And.intro hzs hzs3))))))
  clear hRt hst hrt hct htx ht hL hLf hLa hb hte hT hzs hzs3
  go_enter Tryd.func6, Tryd.ntmps6
  go_wp2_with fail
  refine (HC.out w).mono ?_
  rintro e w1 ⟨a, c, rfl, hle, hLt, q1⟩
  have I1 := Lib.hid (And.intro (Nd.new hle hLt) (q1.alloc (.cells (ncells t a c) 28)))
  clear hle hLt q1
  go_upto_region 2 with fail
  generalize (w1.alloc (.cells (ncells t a c) 28)) = W1 at *
  generalize w1.heap.size = n1 at *
  obtain ⟨⟨x0, x1, x2, x3, x4, x5, x6, x7⟩, -⟩ := cells8 I1.out.1.cell
  go_wp2_with fail
  refine (cText_any t HX.out.2.1 (by have := HX.out.2.2.1; omega) a c W1 I1.out.1.lie (HL.out.2.2.2.2.1.keep I1.out.2)).mono ?_
  rintro e w2 ⟨rfl, q2⟩
  rw [HX.out.1]
  have I2 := Lib.hid (And.intro (I1.out.1.keep q2) (I1.out.2.trans q2))
  clear q2 x0 x1 x2 x3 x4 x5 x6 x7
  go_wp2_with fail
  refine (cText_any (.nd 0 zS 0 0 []) HL.out.2.2.2.2.2.1 (by decide) none 0 w2 (.nil _) (HL.out.2.2.2.2.1.keep I2.out.2)).mono ?_
  rintro e w3 ⟨rfl, q3⟩
  rw [HZ.out]
  have I3 := Lib.hid (And.intro (I2.out.1.keep q3) (I2.out.2.trans q3))
  clear q3
  go_wp2_with fail
  refine (HR.out w3).mono ?_
  rintro e w4 ⟨hV, q4⟩
  rw [HL.out.1] at hV
  obtain ⟨v, hv, hOU⟩ := hV
  subst hv
  obtain ⟨aL, cL, hvs, hleL, hRS⟩ := hOU.form
  subst hvs
  rw [HL.out.2.1]
  have I4 := Lib.hid (And.intro (I3.out.1.keep q4) (And.intro (I3.out.2.trans q4) (hRS.mono (ok' := fun _ => True) (fun _ _ => trivial))))
  clear q4 hOU hRS hleL
  go_wp2_with fail
  have hfile := cfile_any L aL cL (by rw [hL2]; decide) HL.out.2.2.2.1 w4 I4.out.2.2 (HL.out.2.2.2.2.1.keep I4.out.2.1)
  rw [HL.out.2.2.1, HL.out.2.1, show fileV (some [120, 58, 97, 124, 10, 121, 58, 98, 123, 50, 125, 10]) = .tuple #[Bytes.str [120, 58, 97, 124, 10, 121, 58, 98, 123, 50, 125, 10], .int .i64 0] from rfl] at hfile
  refine hfile.mono ?_
  rintro e w5 ⟨rfl, q5⟩
  have I5 := Lib.hid (And.intro (I4.out.1.keep q5) (I4.out.2.1.trans q5))
  clear q5 hfile
  go_wp2_with fail
  refine (HR2.out w5).mono ?_
  rintro e w6 ⟨hV, q6⟩
  rw [aw3] at hV
  have hV' : e = .returned (.tuple #[.slice none 0 0, .int .i64 7, .int .i64 6]) := hV
  subst hV'
  have I6 := Lib.hid (And.intro (I5.out.1.keep q6) (I5.out.2.trans q6))
  clear q6 hV
  obtain ⟨⟨x0, x1, x2, x3, x4, x5, x6, x7⟩, -⟩ := cells8 I6.out.1.cell
  go_wp2_with fail
  refine (cRight_any t HX.out.2.1 a c w6 I6.out.1.lie).mono ?_
  rintro e w7 ⟨rfl, q7⟩
  rw [HX.out.2.2.2]
  have I7 := Lib.hid (I6.out.2.trans q7)
  clear q7 x0 x1 x2 x3 x4 x5 x6 x7
  go_wp2_with fail
  refine (cRight_any (.nd 3 zS 0 0 []) HL.out.2.2.2.2.2.2 none 0 w7 (.nil _)).mono ?_
  rintro e w8 ⟨rfl, q8⟩
  rw [aw5]
  have I8 := Lib.hid (I7.out.trans q8)
  clear q8
  go_wp2_with fail
  go_ret
  exact ⟨rfl, I8.out⟩
end Go.Proofs.YtmeiboaagkoadaaDoor.P08
/- ShowRead: the walk. -/
namespace Go.Proofs.YtmeiboaagkoadaaDoor.P08
open Go.RowKit Go.Proofs.YtmeiboaagkoadaaDoor.Base Go.Proofs.YtmeiboaagkoadaaDoor.P07
open Go.Proofs.YtmeiboaagkoadaaDoor.Sets (ST)
open Go.Proofs.YtmeiboaagkoadaaDoor.Bytes (Tab)

/-- The document's Same, of one expression and itself. -/
theorem same_self (t : T) (a : Option Addr) (c : Nat) (b : Option Addr) (d : Nat) (w : World) (ha : Lie w (fun _ => True) a t.subs) (hb : Lie w (fun _ => True) b t.subs) :
    Calls Tryd.prog 11 #[nodeV t a c, nodeV t b d] w fun e w' => e = .returned (.bool true) ∧ Keep (fun _ => False) w w' := by
  refine (same_any t t a c b d w ha hb).mono ?_
  rintro e w' ⟨v, rfl, hv, q⟩
  exact ⟨by rw [hv.2 rfl], q⟩
/-- Text of a right one. -/
theorem text_right {t : T} (hR : RT 12 t) (hc : cnt t ≤ 200) (a : Option Addr) (c : Nat) (w : World) (hL : Lie w (fun _ => True) a t.subs) (hT : Tab w) :
    Calls Tryd.prog 9 #[nodeV t a c] w fun e w' => e = .returned (.tuple #[Bytes.str (txt t), .int .i64 0]) ∧ Keep (fun _ => False) w w' := by
  have hs := RT_sok t 12 hR
  have h := cText_any t hs (by omega) a c w hL hT
  rw [show textV t = .tuple #[Bytes.str (txt t), .int .i64 0] from by unfold textV; rw [if_pos ((rightB_iff hs).2 hR)]] at h
  exact h
theorem right_right {t : T} (hR : RT 12 t) (a : Option Addr) (c : Nat) (w : World) (hL : Lie w (fun _ => True) a t.subs) :
    Calls Tryd.prog 10 #[nodeV t a c] w fun e w' => e = .returned (.bool true) ∧ Keep (fun _ => False) w w' := by
  have hs := RT_sok t 12 hR
  have h := cRight_any t hs a c w hL
  rw [(rightB_iff hs).2 hR] at h
  exact h
/-- Its text is read as it was. -/
theorem parse_text {t : T} (hR : RT 12 t) (hc : cnt t ≤ 200) (w : World) :
    Calls Tryd.prog 7 #[Bytes.str (txt t)] w fun e w' => ∃ a c, e = .returned (.tuple #[nodeV t a c, .int .i64 0, .int .i64 0]) ∧ t.subs.length ≤ c ∧ Lie w' (fun k => w.heap.size ≤ k) a t.subs ∧ Keep (fun _ => False) w w' := by
  have hlen := txt_len t (RT_sok t 12 hR)
  exact parse_right8 (text_read (F := (txt t).length + 2) hR (by omega)) (Nat.le_refl _) (by omega) w

set_option maxRecDepth 100000 in
set_option maxHeartbeats 8000000 in
theorem show_read (l : List UInt8) (hbl : l.length ≤ 9223372036854775807) (w : World) (hT : Tab w) : Calls Tryd.prog 3 #[Bytes.str l] w fun e w' => e = .returned (.bool true) ∧ Keep (fun _ => False) w w' := by
  have hs : (⟨l.toArray⟩ : ByteArray).size = l.length := by simp [ByteArray.size]
  have hstr : Bytes.str l = .string ⟨l.toArray⟩ := rfl
  rw [hstr]
  obtain ⟨B, hB⟩ : ∃ B : ByteArray, (⟨l.toArray⟩ : ByteArray) = B := ⟨_, rfl⟩
  rw [hB] at hs hstr ⊢
  have HB := Lib.hid (And.intro hstr hT)
  clear hB hstr hT
  go_enter Tryd.func3, Tryd.ntmps3
  by_cases hl : 400 < l.length
  · have hl' : (400 : Int) < l.length := by omega
    go_wp2_with fail
    refine (awake_true w HB.out.2).mono ?_
    rintro e w1 ⟨rfl, q1⟩
    have Q1 := Lib.hid q1
    clear q1
    go_wp2_with fail
    refine (awake_true w1 (HB.out.2.keep Q1.out)).mono ?_
    rintro e w2 ⟨rfl, q2⟩
    have Q2 := Lib.hid (Q1.out.trans q2)
    clear q2
    go_wp2_with fail
    go_ret
    exact ⟨rfl, Q2.out⟩
  have hl' : ¬ (400 : Int) < l.length := by omega
  go_wp2_with fail
  refine (awake_true w HB.out.2).mono ?_
  rintro e w1 ⟨rfl, q1⟩
  have Q1 := Lib.hid q1
  clear q1
  go_wp2_with fail
  obtain ⟨R, hR⟩ : ∃ R, parse 1010 l = R := ⟨_, rfl⟩
  cases R with
  | inl p =>
    have hp := fun W => parse_wrong8 hR (by omega) (by omega) W
    rw [HB.out.1] at hp
    have HP := Lib.hid hp
    clear hp hR
    refine (HP.out w1).mono ?_
    rintro e w2 ⟨rfl, q2⟩
    have Q2 := Lib.hid ((Q1.out.trans q2).alloc (.cells nzeros 28))
    clear q2
    go_wp2_with fail
    go_ret
    exact ⟨rfl, Q2.out⟩
  | inr t =>
    have hp := fun W => parse_right8 hR (by omega) (by omega) W
    rw [HB.out.1] at hp
    have HP := Lib.hid hp
    have HR := Lib.hid (And.intro (read_right hR) (parse_cnt hR))
    clear hp hR
    refine (HP.out w1).mono ?_
    rintro e w2 ⟨a, c, rfl, hle, hL, q2⟩
    have I2 := Lib.hid (And.intro (Nd.new hle hL) ((Q1.out.trans q2).alloc (.cells (ncells t a c) 28)))
    clear q2 hle hL
    go_upto_region 4 with fail
    generalize (w2.alloc (.cells (ncells t a c) 28)) = W2 at *
    generalize w2.heap.size = n2 at *
    obtain ⟨⟨x0, x1, x2, x3, x4, x5, x6, x7⟩, -⟩ := cells8 I2.out.1.cell
    go_wp2_with fail
    refine (few_any t (by have := HR.out.2; omega) a c W2 I2.out.1.lie).mono ?_
    rintro e w3 ⟨rfl, q3⟩
    have I3 := Lib.hid (And.intro (I2.out.1.keep q3) (I2.out.2.trans q3))
    clear q3 x0 x1 x2 x3 x4 x5 x6 x7
    by_cases h1 : sz t ≤ 200
    case neg =>
      have g1 : decide (sz t ≤ 200) = false := decide_eq_false h1
      rw [g1]
      clear g1 h1
      go_wp2_with fail
      go_ret
      exact ⟨rfl, I3.out.2⟩
    have g1 : decide (sz t ≤ 200) = true := decide_eq_true h1
    rw [g1]
    have HC := Lib.hid (few_cnt h1)
    clear g1 h1
    have htx := fun a c W hL h => text_right HR.out.1 HC.out a c W hL (HB.out.2.keep h)
    have hpt := fun W => parse_text HR.out.1 HC.out W
    obtain ⟨X, hX⟩ : ∃ X, txt t = X := ⟨_, rfl⟩
    rw [hX] at htx hpt
    have HT := Lib.hid (And.intro htx hpt)
    clear htx hpt hX
    obtain ⟨⟨x0, x1, x2, x3, x4, x5, x6, x7⟩, -⟩ := cells8 I3.out.1.cell
    go_wp2_with fail
    refine (HT.out.1 a c w3 I3.out.1.lie I3.out.2).mono ?_
    rintro e w4 ⟨rfl, q4⟩
    have I4 := Lib.hid (And.intro (I3.out.1.keep q4) (I3.out.2.trans q4))
    clear q4 x0 x1 x2 x3 x4 x5 x6 x7
    go_wp2_with fail
    refine (HT.out.2 w4).mono ?_
    rintro e w5 ⟨b, d, rfl, hle, hL, q5⟩
    have qn := q5.alloc (.cells (ncells t b d) 28)
    have I5 := Lib.hid (And.intro (I4.out.1.keep qn) (And.intro (Nd.new hle hL) (I4.out.2.trans qn)))
    clear q5 hle hL qn
    go_upto_region 8 with fail
    generalize (w5.alloc (.cells (ncells t b d) 28)) = W5 at *
    generalize w5.heap.size = n5 at *
    obtain ⟨⟨x0, x1, x2, x3, x4, x5, x6, x7⟩, -⟩ := cells8 I5.out.2.1.cell
    go_wp2_with fail
    refine (HT.out.1 b d W5 I5.out.2.1.lie I5.out.2.2).mono ?_
    rintro e w6 ⟨rfl, q6⟩
    have I6 := Lib.hid (And.intro (I5.out.1.keep q6) (And.intro (I5.out.2.1.keep q6) (I5.out.2.2.trans q6)))
    clear q6 x0 x1 x2 x3 x4 x5 x6 x7
    obtain ⟨⟨x0, x1, x2, x3, x4, x5, x6, x7⟩, -⟩ := cells8 I6.out.1.cell
    go_wp2_with fail
    refine (right_right HR.out.1 a c w6 I6.out.1.lie).mono ?_
    rintro e w7 ⟨rfl, q7⟩
    have I7 := Lib.hid (And.intro (I6.out.1.keep q7) (And.intro (I6.out.2.1.keep q7) (I6.out.2.2.trans q7)))
    clear q7 x0 x1 x2 x3 x4 x5 x6 x7
    obtain ⟨⟨x0, x1, x2, x3, x4, x5, x6, x7⟩, -⟩ := cells8 I7.out.1.cell
    obtain ⟨⟨y0, y1, y2, y3, y4, y5, y6, y7⟩, -⟩ := cells8 I7.out.2.1.cell
    go_wp2_with fail
    refine (same_self t a c b d w7 I7.out.1.lie I7.out.2.1.lie).mono ?_
    rintro e w8 ⟨rfl, q8⟩
    have I8 := Lib.hid (I7.out.2.2.trans q8)
    clear q8 x0 x1 x2 x3 x4 x5 x6 x7 y0 y1 y2 y3 y4 y5 y6 y7
    go_wp2_with fail
    go_ret
    exact ⟨rfl, I8.out⟩
end Go.Proofs.YtmeiboaagkoadaaDoor.P08
/- ShowOne: the walk. -/
namespace Go.Proofs.YtmeiboaagkoadaaDoor.P08
open Go.RowKit Go.Proofs.YtmeiboaagkoadaaDoor.Base Go.Proofs.YtmeiboaagkoadaaDoor.P07
open Go.Proofs.YtmeiboaagkoadaaDoor.Sets (ST)
open Go.Proofs.YtmeiboaagkoadaaDoor.Bytes (Tab)

set_option maxRecDepth 100000 in
set_option maxHeartbeats 8000000 in
theorem show_one (t u : T) (a b : Option Addr) (c d : Nat) (w : World) (hT : Tab w) (hta : Lie w (fun _ => True) a t.subs) (hub : Lie w (fun _ => True) b u.subs) (hc : t.subs.length ≤ c) (hd : u.subs.length ≤ d) (ht : cnt t ≤ 1000000000) (hu : cnt u ≤ 1000000000) (hst : SOk t) (hsu : SOk u) :
    Calls Tryd.prog 4 #[nodeV t a c, nodeV u b d] w fun e w' => e = .returned (.bool true) ∧ Keep (fun _ => False) w w' := by
  have a0 := (At.new w (ncells t a c) 28).alloc (.cells (ncells u b d) 28)
  have a1 := At.new (w.alloc (.cells (ncells t a c) 28)) (ncells u b d) 28
  have q := ((Keep.refl (fun _ => False) w).alloc (.cells (ncells t a c) 28)).alloc (.cells (ncells u b d) 28)
  rw [show (w.alloc (.cells (ncells t a c) 28)).heap.size = w.heap.size + 1 from by simp] at a1
  have H0 := Lib.hid (show (Keep (fun _ => False) w _ ∧ Nd _ w.heap.size t a c ∧ Nd _ (w.heap.size + 1) u b d) from ⟨q, ⟨a0, hta.keepF q, hc⟩, ⟨a1, hub.keepF q, hd⟩⟩)
  have HCT := Lib.hid (And.intro ht (And.intro hu (And.intro hT (And.intro hst hsu))))
  clear a0 a1 q hta hub hc hd ht hu hT hst hsu
  go_enter Tryd.func4, Tryd.ntmps4
  go_upto_region 1 with fail
  generalize ((w.alloc (.cells (ncells t a c) 28)).alloc (.cells (ncells u b d) 28)) = W0 at *
  go_wp2_with fail
  refine (awake_true W0 (HCT.out.2.2.1.keep H0.out.1)).mono ?_
  rintro e w1 ⟨rfl, q1⟩
  have H1 := Lib.hid (And.intro (H0.out.1.trans q1) (And.intro (H0.out.2.1.keep q1) (H0.out.2.2.keep q1)))
  clear q1
  obtain ⟨x0, x1, x2, x3, x4, x5, x6, x7⟩ := (cells8 H1.out.2.1.cell).1
  go_wp2_with fail
  refine (few_any t HCT.out.1 a c w1 H1.out.2.1.lie).mono ?_
  rintro e w2 ⟨rfl, q2⟩
  have H2 := Lib.hid (And.intro (H1.out.1.trans q2) (And.intro (H1.out.2.1.keep q2) (H1.out.2.2.keep q2)))
  clear q2 x0 x1 x2 x3 x4 x5 x6 x7
  by_cases h1 : sz t ≤ 200
  case neg =>
    have g1 : decide (sz t ≤ 200) = false := decide_eq_false h1
    rw [g1]
    clear g1 h1
    go_wp2_with fail
    refine (awake_true w2 (HCT.out.2.2.1.keep H2.out.1)).mono ?_
    rintro e w3 ⟨rfl, q3⟩
    have Q3 := Lib.hid (H2.out.1.trans q3)
    clear q3
    go_wp2_with fail
    go_ret
    exact ⟨rfl, Q3.out⟩
  have g1 : decide (sz t ≤ 200) = true := decide_eq_true h1
  rw [g1]
  have HF1 := Lib.hid (few_cnt h1)
  clear g1 h1
  obtain ⟨y0, y1, y2, y3, y4, y5, y6, y7⟩ := (cells8 H2.out.2.2.cell).1
  go_wp2_with fail
  refine (few_any u HCT.out.2.1 b d w2 H2.out.2.2.lie).mono ?_
  rintro e w3 ⟨rfl, q3⟩
  have H3 := Lib.hid (And.intro (H2.out.1.trans q3) (And.intro (H2.out.2.1.keep q3) (H2.out.2.2.keep q3)))
  clear q3 y0 y1 y2 y3 y4 y5 y6 y7
  by_cases h2 : sz u ≤ 200
  case neg =>
    have g1 : decide (sz u ≤ 200) = false := decide_eq_false h2
    rw [g1]
    clear g1 h2
    go_wp2_with fail
    refine (awake_true w3 (HCT.out.2.2.1.keep H3.out.1)).mono ?_
    rintro e w4 ⟨rfl, q4⟩
    have Q4 := Lib.hid (H3.out.1.trans q4)
    clear q4
    go_wp2_with fail
    go_ret
    exact ⟨rfl, Q4.out⟩
  have g1 : decide (sz u ≤ 200) = true := decide_eq_true h2
  rw [g1]
  have HF2 := Lib.hid (few_cnt h2)
  clear g1 h2
  obtain ⟨x0, x1, x2, x3, x4, x5, x6, x7⟩ := (cells8 H3.out.2.1.cell).1
  go_wp2_with fail
  refine (fright_any t HCT.out.1 a c w3 H3.out.2.1.lie).mono ?_
  rintro e w4 ⟨rfl, q4⟩
  have H4 := Lib.hid (And.intro (H3.out.1.trans q4) (And.intro (H3.out.2.1.keep q4) (H3.out.2.2.keep q4)))
  clear q4 x0 x1 x2 x3 x4 x5 x6 x7
  cases h3 : rightB t with
  | false =>
    clear h3
    go_wp2_with fail
    refine (awake_true w4 (HCT.out.2.2.1.keep H4.out.1)).mono ?_
    rintro e w5 ⟨rfl, q5⟩
    have Q5 := Lib.hid (H4.out.1.trans q5)
    clear q5
    go_wp2_with fail
    go_ret
    exact ⟨rfl, Q5.out⟩
  | true =>
    have HR1 := Lib.hid ((rightB_iff HCT.out.2.2.2.1).1 h3)
    clear h3
    obtain ⟨y0, y1, y2, y3, y4, y5, y6, y7⟩ := (cells8 H4.out.2.2.cell).1
    go_wp2_with fail
    refine (fright_any u HCT.out.2.1 b d w4 H4.out.2.2.lie).mono ?_
    rintro e w5 ⟨rfl, q5⟩
    have H5 := Lib.hid (And.intro (H4.out.1.trans q5) (And.intro (H4.out.2.1.keep q5) (H4.out.2.2.keep q5)))
    clear q5 y0 y1 y2 y3 y4 y5 y6 y7
    cases h4 : rightB u with
    | false =>
      clear h4
      go_wp2_with fail
      refine (awake_true w5 (HCT.out.2.2.1.keep H5.out.1)).mono ?_
      rintro e w6 ⟨rfl, q6⟩
      have Q6 := Lib.hid (H5.out.1.trans q6)
      clear q6
      go_wp2_with fail
      go_ret
      exact ⟨rfl, Q6.out⟩
    | true =>
      have HR2 := Lib.hid ((rightB_iff HCT.out.2.2.2.2).1 h4)
      clear h4
      obtain ⟨g, hg⟩ : ∃ g : Bool, (g = true ↔ t = u) := by
        by_cases h : t = u
        · exact ⟨true, fun _ => h, fun _ => rfl⟩
        · exact ⟨false, fun h' => (by cases h'), fun h' => absurd h' h⟩
      have hx1 := fun a c W hL h => text_right HR1.out HF1.out a c W hL (HCT.out.2.2.1.keep h)
      have hx2 := fun a c W hL h => text_right HR2.out HF2.out a c W hL (HCT.out.2.2.1.keep h)
      have hXY : txt t = txt u ↔ t = u := ⟨txt_inj HR1.out HR2.out, fun h => by rw [h]⟩
      obtain ⟨X, hX⟩ : ∃ X, txt t = X := ⟨_, rfl⟩
      obtain ⟨Y, hY⟩ : ∃ Y, txt u = Y := ⟨_, rfl⟩
      rw [hX] at hx1 hXY
      rw [hY] at hx2 hXY
      have hb : (X == Y) = g := by
        rw [Bool.eq_iff_iff, hg, ← hXY]
        simp
      have HX := Lib.hid (And.intro hx1 (And.intro hx2 hg))
      have hgg : (g == g) = true := by simp
      clear hx1 hx2 hXY hX hY hg
      obtain ⟨x0, x1, x2, x3, x4, x5, x6, x7⟩ := (cells8 H5.out.2.1.cell).1
      go_wp2_with fail
      refine (HX.out.1 a c w5 H5.out.2.1.lie H5.out.1).mono ?_
      rintro e w6 ⟨rfl, q6⟩
      have H6 := Lib.hid (And.intro (H5.out.1.trans q6) (And.intro (H5.out.2.1.keep q6) (H5.out.2.2.keep q6)))
      clear q6 x0 x1 x2 x3 x4 x5 x6 x7
      obtain ⟨y0, y1, y2, y3, y4, y5, y6, y7⟩ := (cells8 H6.out.2.2.cell).1
      go_wp2_with fail
      refine (HX.out.2.1 b d w6 H6.out.2.2.lie H6.out.1).mono ?_
      rintro e w7 ⟨rfl, q7⟩
      have H7 := Lib.hid (And.intro (H6.out.1.trans q7) (And.intro (H6.out.2.1.keep q7) (H6.out.2.2.keep q7)))
      clear q7 y0 y1 y2 y3 y4 y5 y6 y7
      obtain ⟨x0, x1, x2, x3, x4, x5, x6, x7⟩ := (cells8 H7.out.2.1.cell).1
      obtain ⟨y0, y1, y2, y3, y4, y5, y6, y7⟩ := (cells8 H7.out.2.2.cell).1
      go_wp2_with fail
      refine (same_any t u a c b d w7 H7.out.2.1.lie H7.out.2.2.lie).mono ?_
      rintro e w8 ⟨v, rfl, hv, q8⟩
      have hvg : v = g := Bool.eq_iff_iff.2 (hv.trans HX.out.2.2.symm)
      subst hvg
      have Q8 := Lib.hid (H7.out.1.trans q8)
      clear q8 hv x0 x1 x2 x3 x4 x5 x6 x7 y0 y1 y2 y3 y4 y5 y6 y7
      go_wp2_with fail
      go_ret
      exact ⟨rfl, Q8.out⟩
end Go.Proofs.YtmeiboaagkoadaaDoor.P08
/- ShowParts: the walk. -/
namespace Go.Proofs.YtmeiboaagkoadaaDoor.P08
open Go.RowKit Go.Proofs.YtmeiboaagkoadaaDoor.Base Go.Proofs.YtmeiboaagkoadaaDoor.P07
open Go.Proofs.YtmeiboaagkoadaaDoor.Sets (ST)
open Go.Proofs.YtmeiboaagkoadaaDoor.Bytes (Tab)

/-- Does Y stand in X at a place below j? -/
def fnd (X Y : List UInt8) (j : Nat) : Bool := (List.range j).any fun m => decide (Ref06.sub X m (m + Y.length) = Y)
theorem fnd_succ (X Y : List UInt8) (j : Nat) : fnd X Y (j + 1) = (fnd X Y j || decide (Ref06.sub X j (j + Y.length) = Y)) := by
  unfold fnd
  rw [List.range_succ, List.any_append]
  simp
theorem fnd_yes {X Y a b : List UInt8} (h : X = a ++ (Y ++ b)) {j : Nat} (hj : X.length < j + Y.length) : fnd X Y j = true := by
  unfold fnd
  refine List.any_eq_true.2 ⟨a.length, List.mem_range.2 ?_, decide_eq_true ?_⟩
  · rw [h, List.length_append, List.length_append] at hj
    omega
  · subst h
    unfold Ref06.sub
    rw [List.drop_take]
    simp

set_option maxRecDepth 100000 in
set_option maxHeartbeats 8000000 in
theorem show_parts (t : T) (a : Option Addr) (c : Nat) (w : World) (hT : Tab w) (hta : Lie w (fun _ => True) a t.subs) (hc : t.subs.length ≤ c) (ht : cnt t ≤ 1000000000) (hst : SOk t) :
    Calls Tryd.prog 5 #[nodeV t a c] w fun e w' => e = .returned (.bool true) ∧ Keep (fun _ => False) w w' := by
  have q := (Keep.refl (fun _ => False) w).alloc (.cells (ncells t a c) 28)
  have H0 := Lib.hid (And.intro q (Nd.new hc hta))
  have HCT := Lib.hid (And.intro ht (And.intro hT hst))
  clear q hta hc ht hT hst
  go_enter Tryd.func5, Tryd.ntmps5
  go_upto_region 1 with fail
  generalize (w.alloc (.cells (ncells t a c) 28)) = W0 at *
  go_wp2_with fail
  refine (awake_true W0 (HCT.out.2.1.keep H0.out.1)).mono ?_
  rintro e w1 ⟨rfl, q1⟩
  have H1 := Lib.hid (And.intro (H0.out.1.trans q1) (H0.out.2.keep q1))
  clear q1
  obtain ⟨x0, x1, x2, x3, x4, x5, x6, x7⟩ := (cells8 H1.out.2.cell).1
  go_wp2_with fail
  refine (few_any t HCT.out.1 a c w1 H1.out.2.lie).mono ?_
  rintro e w2 ⟨rfl, q2⟩
  have H2 := Lib.hid (And.intro (H1.out.1.trans q2) (H1.out.2.keep q2))
  clear q2 x0 x1 x2 x3 x4 x5 x6 x7
  by_cases h1 : sz t ≤ 200
  case neg =>
    have g1 : decide (sz t ≤ 200) = false := decide_eq_false h1
    rw [g1]
    clear g1 h1
    go_wp2_with fail
    refine (awake_true w2 (HCT.out.2.1.keep H2.out.1)).mono ?_
    rintro e w3 ⟨rfl, q3⟩
    have Q3 := Lib.hid (H2.out.1.trans q3)
    clear q3
    go_wp2_with fail
    go_ret
    exact ⟨rfl, Q3.out⟩
  have g1 : decide (sz t ≤ 200) = true := decide_eq_true h1
  rw [g1]
  have HF1 := Lib.hid (few_cnt h1)
  clear g1 h1
  obtain ⟨x0, x1, x2, x3, x4, x5, x6, x7⟩ := (cells8 H2.out.2.cell).1
  go_wp2_with fail
  refine (fright_any t HCT.out.1 a c w2 H2.out.2.lie).mono ?_
  rintro e w3 ⟨rfl, q3⟩
  have H3 := Lib.hid (And.intro (H2.out.1.trans q3) (H2.out.2.keep q3))
  clear q3 x0 x1 x2 x3 x4 x5 x6 x7
  cases h3 : rightB t with
  | false =>
    clear h3
    go_wp2_with fail
    refine (awake_true w3 (HCT.out.2.1.keep H3.out.1)).mono ?_
    rintro e w4 ⟨rfl, q4⟩
    have Q4 := Lib.hid (H3.out.1.trans q4)
    clear q4
    go_wp2_with fail
    go_ret
    exact ⟨rfl, Q4.out⟩
  | true =>
    have HR := Lib.hid ((rightB_iff HCT.out.2.2).1 h3)
    clear h3
    have hlX : (txt t).length ≤ 480000 := by
      have := txt_len t HCT.out.2.2
      have := HF1.out
      omega
    have hx := fun a c W hL h => text_right HR.out HF1.out a c W hL (HCT.out.2.1.keep h)
    have hpt := fun (u : T) (h : u ∈ t.subs) => part_text HR.out h
    obtain ⟨X, hX⟩ : ∃ X, txt t = X := ⟨_, rfl⟩
    rw [hX] at hx hlX hpt
    have hsl := Ref06.slice_run X
    have hsX := Ref06.size_str X
    have hsx : Bytes.str X = .string ⟨X.toArray⟩ := rfl
    have hsx' : Ref06.str X = .string ⟨X.toArray⟩ := rfl
    obtain ⟨BX, hBX⟩ : ∃ B : ByteArray, (⟨X.toArray⟩ : ByteArray) = B := ⟨_, rfl⟩
    rw [hBX] at hsx hsx' hsX
    rw [hsx'] at hsl
    rw [hsx] at hx
    have HX := Lib.hid (And.intro hx (And.intro hpt (And.intro hsl hX)))
    clear hx hpt hX hsl hsx hsx' hBX
    obtain ⟨x0, x1, x2, x3, x4, x5, x6, x7⟩ := (cells8 H3.out.2.cell).1
    go_wp2_with fail
    refine (HX.out.1 a c w3 H3.out.2.lie H3.out.1).mono ?_
    rintro e w4 ⟨rfl, q4⟩
    have H4 := Lib.hid (And.intro (H3.out.1.trans q4) (H3.out.2.keep q4))
    clear q4 x0 x1 x2 x3 x4 x5 x6 x7
    obtain ⟨x0, x1, x2, x3, x4, x5, x6, x7⟩ := (cells8 H4.out.2.cell).1
    have hlen := H4.out.2.lie.len
    go_wp2_with fail
    clear x0 x1 x2 x3 x4 x5 x6 x7
    go_loopg [6, 7, 8, 9, 10, 32] t.subs.length (fun gg s6 s7 s8 s9 s10 i wr => ∃ k : Nat, i = .int .i64 k ∧ k + gg = t.subs.length ∧ Keep (fun _ => False) w4 wr)
    case atStart => exact ⟨0, rfl, by omega, Keep.refl _ _⟩
    case round =>
      obtain ⟨k, rfl, hk, hq⟩ := hrel
      by_cases hlt : k < t.subs.length
      · have hlt' : (k : Int) < t.subs.length := by omega
        have i0 : (0 : Int) ≤ k := by omega
        obtain ⟨s, hs⟩ : ∃ s, t.subs[k]? = some s := ⟨t.subs[k], List.getElem?_eq_getElem hlt⟩
        obtain ⟨hRs, pa, pb, hpx⟩ := HX.out.2.1 s (List.mem_of_getElem? hs)
        have hcs := cntL_le hs
        have hct : cnt t = 1 + cntL t.subs := cnt_eq t
        have hcs2 : cnt s ≤ 200 := by have := HF1.out; omega
        have LL := Lib.hid ((H4.out.2.keep hq).lie)
        obtain ⟨b2, off, a1, e1, rfl, -, hbl2, hle1, L1, C1⟩ := LL.out.get hs
        obtain ⟨d0, d1, d2, d3, d4, d5, d6, d7⟩ := NodeP.eight (show NodeP wr b2 (off + k * 8) s a1 e1 from ⟨hbl2, C1⟩)
        have hty := fun W hL h => text_right hRs hcs2 a1 e1 W hL (HCT.out.2.1.keep h)
        have hlY := txt_len s (RT_sok s 12 hRs)
        obtain ⟨Y, hY⟩ : ∃ Y, txt s = Y := ⟨_, rfl⟩
        rw [hY] at hty hpx hlY
        have hsY := Ref06.size_str Y
        have hsy : Bytes.str Y = .string ⟨Y.toArray⟩ := rfl
        have hcmp : ∀ Z : List UInt8, ((ByteArray.mk Z.toArray).toList == (ByteArray.mk Y.toArray).toList) = decide (Z = Y) := fun Z => by
          rw [Bool.eq_iff_iff]
          simp
        obtain ⟨BY, hBY⟩ : ∃ B : ByteArray, (⟨Y.toArray⟩ : ByteArray) = B := ⟨_, rfl⟩
        rw [hBY] at hsy hsY hcmp
        rw [hsy] at hty
        have N1 := Lib.hid (Nd.new (W := wr) hle1 L1)
        have Q1 := Lib.hid (hq.alloc (.cells (ncells s a1 e1) 28))
        have HY := Lib.hid (And.intro hty (And.intro hpx (And.intro hcmp (And.intro hRs hs))))
        have hY5 : Y.length ≤ 480000 := by omega
        clear hty hpx hcmp hRs hs L1 C1 hq hY hBY hsy hcs hct hcs2 hlY
        go_upto_region 7 with fail
        generalize (wr.alloc (.cells (ncells s a1 e1) 28)) = W1 at *
        generalize wr.heap.size = n1 at *
        clear d0 d1 d2 d3 d4 d5 d6 d7
        obtain ⟨x0, x1, x2, x3, x4, x5, x6, x7⟩ := (cells8 N1.out.cell).1
        go_wp2_with fail
        refine (HY.out.1 W1 N1.out.lie (H4.out.1.trans Q1.out)).mono ?_
        rintro e w5 ⟨rfl, q5⟩
        have N5 := Lib.hid (And.intro (N1.out.keep q5) (Q1.out.trans q5))
        clear q5 x0 x1 x2 x3 x4 x5 x6 x7
        obtain ⟨x0, x1, x2, x3, x4, x5, x6, x7⟩ := (cells8 N5.out.1.cell).1
        go_wp2_with fail
        refine (right_right HY.out.2.2.2.1 a1 e1 w5 N5.out.1.lie).mono ?_
        rintro e w6 ⟨rfl, q6⟩
        have Q6 := Lib.hid (N5.out.2.trans q6)
        clear q6 x0 x1 x2 x3 x4 x5 x6 x7
        go_wp2_with fail
        go_loopg [9, 10] (X.length + 1) (fun gg f i wx => ∃ j : Nat, i = .int .i64 j ∧ j + gg = X.length + 1 ∧ f = .bool (fnd X Y j) ∧ wx = w6)
        case atStart => exact ⟨0, rfl, by omega, rfl, rfl⟩
        case round =>
          obtain ⟨j, rfl, hj, rfl, rfl⟩ := hrel
          have hwj : IntKind.i64.wrap ((j : Int) + Y.length) = (j : Int) + Y.length := by rw [IntKind.wrap_i64]; omega
          by_cases hin : j + Y.length ≤ X.length
          · have hin' : (j : Int) + Y.length ≤ X.length := by omega
            have j0 : (0 : Int) ≤ j := by omega
            have hse := fnd_succ X Y j
            have hsr := fun W => HX.out.2.2.1 j (j + Y.length) (by omega) hin W
            obtain ⟨Z, hZ⟩ : ∃ Z, (⟨(Ref06.sub X j (j + Y.length)).toArray⟩ : ByteArray) = Z := ⟨_, rfl⟩
            have hzc := HY.out.2.2.1 (Ref06.sub X j (j + Y.length))
            obtain ⟨dB, hdB⟩ : ∃ b, decide (Ref06.sub X j (j + Y.length) = Y) = b := ⟨_, rfl⟩
            rw [hdB] at hse hzc
            rw [hZ] at hzc
            have hsr' : ∀ W, (Instr.slice 9 (.string BX) (some (.int .i64 j)) (some (.int .i64 ((j : Int) + Y.length))) none).run Tryd.prog W = .ok (.string Z) W := fun W => by
              have := hsr W
              rw [show ((j + Y.length : Nat) : Int) = (j : Int) + Y.length from by omega] at this
              rw [this, ← hZ]
            obtain ⟨fj, hfj⟩ : ∃ b, fnd X Y j = b := ⟨_, rfl⟩
            rw [hfj] at hse ⊢
            have HE := Lib.hid hse
            clear hse hsr hZ hdB hfj
            cases fj <;> cases dB
            all_goals
              go_wp2_with fail
              go_roundg (X.length + 1 - (j + 1))
              case measure => omega
              case rel => exact ⟨j + 1, by go_num, by omega, by rw [HE.out]; first | rfl | (rw [hzc]; rfl), rfl⟩
          · have hin' : ¬ (j : Int) + Y.length ≤ X.length := by omega
            have hyes : fnd X Y j = true := fnd_yes HY.out.2.1 (by omega)
            rw [hyes]
            clear hyes
            go_wp2_with fail
            go_roundg (t.subs.length - (k + 1))
            case measure => omega
            case rel => exact ⟨k + 1, by go_num, by omega, Q6.out⟩
      · have hke : k = t.subs.length := by omega
        have HQ := Lib.hid (H4.out.1.trans hq)
        subst hke
        clear hq
        go_wp2_with fail
        go_ret
        exact ⟨rfl, HQ.out⟩
end Go.Proofs.YtmeiboaagkoadaaDoor.P08

/- Layer 8: awake answers true. -/
import Derived.Test.YtmeiboaagkoadaaGreatDoorKK42
import Derived.Test.YtmeiboaagkoadaaGreatDoorKK45
import Derived.Test.YtmeiboaagkoadaaGreatDoorKK35
import Derived.Test.YtmeiboaagkoadaaGreatDoorKK20
import Derived.Test.YtmeiboaagkoadaaGreatDoorKK39
namespace Go.Proofs.YtmeiboaagkoadaaGreatDoor.P08
open Go.RowKit Go.Proofs.YtmeiboaagkoadaaGreatDoor.Base Go.Proofs.YtmeiboaagkoadaaGreatDoor.P07
open Go.Proofs.YtmeiboaagkoadaaGreatDoor.Sets (ST)
open Go.Proofs.YtmeiboaagkoadaaGreatDoor.Bytes (Tab)
open Go.Proofs.YtmeiboaagkoadaaGreatDoor.Ref06 (LN)

/-- Parse of a text that is right. -/
theorem parse_right8 {F : Nat} {l : List UInt8} {t : T} (h : parse F l = .inr t) (hF : l.length + 2 ≤ F) (hl : l.length ≤ 100000000) (w : World) :
    Calls Tryz.prog 10 #[Bytes.str l] w fun e w' => ∃ a c, e = .returned (.tuple #[nodeV t a c, .int .i64 0, .int .i64 0]) ∧ t.subs.length ≤ c ∧ Lie w' (fun k => w.heap.size ≤ k) a t.subs ∧ Keep (fun _ => False) w w' := by
  refine (regex_any F l hF hl w).mono ?_
  rintro e w' ⟨hP, q⟩
  rw [h] at hP
  obtain ⟨v, rfl, a, c, rfl, hle, hL⟩ := hP
  exact ⟨a, c, rfl, hle, hL, q⟩
/-- .. that is wrong. -/
theorem parse_wrong8 {F : Nat} {l : List UInt8} {p : Nat} (h : parse F l = .inl p) (hF : l.length + 2 ≤ F) (hl : l.length ≤ 100000000) (w : World) :
    Calls Tryz.prog 10 #[Bytes.str l] w fun e w' => e = .returned (.tuple #[.agg nzeros, .int .i64 p, .int .i64 6]) ∧ Keep (fun _ => False) w w' := by
  refine (regex_any F l hF hl w).mono ?_
  rintro e w' ⟨hP, q⟩
  rw [h] at hP
  exact ⟨hP, q⟩
/-- What stands in the rules of a file is right. -/
theorem rulesL_right {F : Nat} : ∀ (M : List LN) (out L : List RU), rulesL F M out = .inr L → (∀ x ∈ out, RT 12 x.re) → ∀ x ∈ L, RT 12 x.re
  | [], out, L, h, ho => by
    rw [rulesL] at h
    injection h with h
    subst h
    exact ho
  | r :: M, out, L, h, ho => by
    rw [rulesL] at h
    cases hp : parse F r.text with
    | inl p => rw [hp] at h; cases h
    | inr t =>
      rw [hp] at h
      refine rulesL_right M _ L h (fun x hx => ?_)
      rcases List.mem_append.1 hx with hx | hx
      · exact ho x hx
      · rw [List.mem_singleton.1 hx]
        exact read_right hp
theorem rulesR_right {F : Nat} {l : List UInt8} {L : List RU} (h : rulesR F l = .inr L) : ∀ x ∈ L, RT 12 x.re := by
  unfold rulesR at h
  split at h
  · cases h
  · exact rulesL_right _ [] L h (by simp)

def awT (F : Nat) (l : List UInt8) : List UInt8 × Bool := match parse F l with
  | .inr t => (txt t, decide (cnt t ≤ 1000))
  | .inl _ => ([], false)
theorem aw1 : awT 10 [40, 97, 124, 98, 41, 99, 43] = ([40, 97, 124, 98, 41, 99, 43], true) := by kernel_rfl
def awF (F : Nat) (l : List UInt8) : Nat × Option (List UInt8) × Bool := match rulesR F l with
  | .inr L => (L.length, fileR L, L.all fun x => decide (x.nm.length ≤ 1000) && decide (cnt x.re ≤ 1000))
  | .inl _ => (0, none, false)
theorem aw2 : awF 1010 [120, 58, 97, 124, 10, 121, 58, 98, 123, 50, 44, 50, 125] = (2, some [120, 58, 97, 124, 10, 121, 58, 98, 123, 50, 125, 10], true) := by kernel_rfl
theorem aw3 : rulesR 1010 [120, 58, 97, 10, 121, 58, 40] = .inl 7 := by kernel_rfl
theorem aw4 : rightB (.nd 0 zS 0 0 []) = false := by kernel_rfl
theorem aw5 : rightB (.nd 3 zS 0 0 []) = false := by kernel_rfl

/-- An expression in block n. -/
structure Nd (W : World) (n : Nat) (t : T) (a : Option Addr) (c : Nat) : Prop where
  cell : At W n 27 (ncells t a c)
  lie : Lie W (fun _ => True) a t.subs
  le : t.subs.length ≤ c
theorem Nd.keep {W W' : World} {n : Nat} {t : T} {a : Option Addr} {c : Nat} (h : Nd W n t a c) (q : Keep (fun _ => False) W W') : Nd W' n t a c := ⟨h.cell.keep q (fun h => h), h.lie.keepF q, h.le⟩
theorem Nd.new {W : World} {t : T} {a : Option Addr} {c : Nat} {ok : Nat → Prop} (hle : t.subs.length ≤ c) (hL : Lie W ok a t.subs) : Nd (W.alloc (.cells (ncells t a c) 27)) W.heap.size t a c :=
  ⟨At.new W _ _, (hL.mono (fun _ _ => trivial)).keepF ((Keep.refl (fun _ => False) W).alloc _), hle⟩

set_option maxRecDepth 100000 in
set_option maxHeartbeats 8000000 in
theorem awake_true (w : World) (hT : Tab w) : Calls Tryz.prog 5 #[] w fun e w' => e = .returned (.bool true) ∧ Keep (fun _ => False) w w' := by
  obtain ⟨t, ht, htx, hct⟩ : ∃ t, parse 10 [40, 97, 124, 98, 41, 99, 43] = .inr t ∧ txt t = [40, 97, 124, 98, 41, 99, 43] ∧ cnt t ≤ 1000 := by
    have h := aw1
    unfold awT at h
    cases hp : parse 10 [40, 97, 124, 98, 41, 99, 43] with
    | inl p => rw [hp] at h; cases h
    | inr t =>
      rw [hp] at h
      injection h with h1 h2
      exact ⟨t, rfl, h1, of_decide_eq_true h2⟩
  have hRt := read_right ht
  have hst := RT_sok t 12 hRt
  have hrt := (rightB_iff hst).2 hRt
  obtain ⟨L, hL, hL2, hLf, hLa⟩ : ∃ L, rulesR 1010 [120, 58, 97, 124, 10, 121, 58, 98, 123, 50, 44, 50, 125] = .inr L ∧ L.length = 2 ∧ fileR L = some [120, 58, 97, 124, 10, 121, 58, 98, 123, 50, 125, 10] ∧ (L.all fun x => decide (x.nm.length ≤ 1000) && decide (cnt x.re ≤ 1000)) = true := by
    have h := aw2
    unfold awF at h
    cases hp : rulesR 1010 [120, 58, 97, 124, 10, 121, 58, 98, 123, 50, 44, 50, 125] with
    | inl p => rw [hp] at h; cases h
    | inr L =>
      rw [hp] at h
      injection h with h1 h2
      injection h2 with h2 h3
      exact ⟨L, rfl, h1, h2, h3⟩
  have hb : ∀ x ∈ L, x.nm.length ≤ 4000000 ∧ SOk x.re ∧ cnt x.re ≤ 1000 := fun x hx => by
    have h1 := List.all_eq_true.1 hLa x hx
    rw [Bool.and_eq_true] at h1
    have h2 := of_decide_eq_true h1.1
    exact ⟨by omega, RT_sok x.re 12 (rulesR_right hL x hx), of_decide_eq_true h1.2⟩
  have HC := Lib.hid (fun W => parse_right8 ht (by decide) (by decide) W)
  have hte : textV t = .tuple #[Bytes.str [40, 97, 124, 98, 41, 99, 43], .int .i64 0] := by unfold textV; rw [if_pos hrt, htx]
  have HX := Lib.hid (And.intro hte (And.intro hst (And.intro hct hrt)))
  have HZ := Lib.hid (show textV (.nd 0 zS 0 0 []) = .tuple #[Bytes.str [], .int .i64 1] from by unfold textV; rw [aw4]; rfl)
  have hzs : SOk (.nd 0 zS 0 0 []) := by rw [SOk, SOkL]; exact ⟨ST.none_ok, trivial⟩
  have hzs3 : SOk (.nd 3 zS 0 0 []) := by rw [SOk, SOkL]; exact ⟨ST.none_ok, trivial⟩
  have HR := Lib.hid (fun W => crules_any 1010 (by decide) [120, 58, 97, 124, 10, 121, 58, 98, 123, 50, 44, 50, 125] (by decide) W)
  have HR2 := Lib.hid (fun W => crules_any 1010 (by decide) [120, 58, 97, 10, 121, 58, 40] (by decide) W)
  have HL := Lib.hid (And.intro hL (And.intro hL2 (And.intro hLf (And.intro hb (And.intro hT (And.intro hzs hzs3))))))
  clear hRt hst hrt hct htx ht hL hLf hLa hb hte hT hzs hzs3
  go_enter Tryz.func5, Tryz.ntmps5
  go_wp2_with fail
  refine (HC.out w).mono ?_
  rintro e w1 ⟨a, c, rfl, hle, hLt, q1⟩
  have I1 := Lib.hid (And.intro (Nd.new hle hLt) (q1.alloc (.cells (ncells t a c) 27)))
  clear hle hLt q1
  go_upto_region 2 with fail
  generalize (w1.alloc (.cells (ncells t a c) 27)) = W1 at *
  generalize w1.heap.size = n1 at *
  obtain ⟨⟨x0, x1, x2, x3, x4, x5, x6, x7⟩, -⟩ := cells8 I1.out.1.cell
  go_wp2_with fail
  refine (cText_any t HX.out.2.1 (by have := HX.out.2.2.1; omega) a c W1 I1.out.1.lie (HL.out.2.2.2.2.1.keep I1.out.2)).mono ?_
  rintro e w2 ⟨rfl, q2⟩
  rw [HX.out.1]
  have I2 := Lib.hid (And.intro (I1.out.1.keep q2) (I1.out.2.trans q2))
  clear q2 x0 x1 x2 x3 x4 x5 x6 x7
  go_wp2_with fail
  refine (cText_any (.nd 0 zS 0 0 []) HL.out.2.2.2.2.2.1 (by decide) none 0 w2 (.nil _) (HL.out.2.2.2.2.1.keep I2.out.2)).mono ?_
  rintro e w3 ⟨rfl, q3⟩
  rw [HZ.out]
  have I3 := Lib.hid (And.intro (I2.out.1.keep q3) (I2.out.2.trans q3))
  clear q3
  go_wp2_with fail
  refine (HR.out w3).mono ?_
  rintro e w4 ⟨hV, q4⟩
  rw [HL.out.1] at hV
  obtain ⟨v, hv, hOU⟩ := hV
  subst hv
  obtain ⟨aL, cL, hvs, hleL, hRS⟩ := hOU.form
  subst hvs
  rw [HL.out.2.1]
  have I4 := Lib.hid (And.intro (I3.out.1.keep q4) (And.intro (I3.out.2.trans q4) (hRS.mono (ok' := fun _ => True) (fun _ _ => trivial))))
  clear q4 hOU hRS hleL
  go_wp2_with fail
  have hfile := cfile_any L aL cL (by rw [hL2]; decide) HL.out.2.2.2.1 w4 I4.out.2.2 (HL.out.2.2.2.2.1.keep I4.out.2.1)
  rw [HL.out.2.2.1, HL.out.2.1, show fileV (some [120, 58, 97, 124, 10, 121, 58, 98, 123, 50, 125, 10]) = .tuple #[Bytes.str [120, 58, 97, 124, 10, 121, 58, 98, 123, 50, 125, 10], .int .i64 0] from rfl] at hfile
  refine hfile.mono ?_
  rintro e w5 ⟨rfl, q5⟩
  have I5 := Lib.hid (And.intro (I4.out.1.keep q5) (I4.out.2.1.trans q5))
  clear q5 hfile
  go_wp2_with fail
  refine (HR2.out w5).mono ?_
  rintro e w6 ⟨hV, q6⟩
  rw [aw3] at hV
  have hV' : e = .returned (.tuple #[.slice none 0 0, .int .i64 7, .int .i64 6]) := hV
  subst hV'
  have I6 := Lib.hid (And.intro (I5.out.1.keep q6) (I5.out.2.trans q6))
  clear q6 hV
  obtain ⟨⟨x0, x1, x2, x3, x4, x5, x6, x7⟩, -⟩ := cells8 I6.out.1.cell
  go_wp2_with fail
  refine (cRight_any t HX.out.2.1 a c w6 I6.out.1.lie).mono ?_
  rintro e w7 ⟨rfl, q7⟩
  rw [HX.out.2.2.2]
  have I7 := Lib.hid (I6.out.2.trans q7)
  clear q7 x0 x1 x2 x3 x4 x5 x6 x7
  go_wp2_with fail
  refine (cRight_any (.nd 3 zS 0 0 []) HL.out.2.2.2.2.2.2 none 0 w7 (.nil _)).mono ?_
  rintro e w8 ⟨rfl, q8⟩
  rw [aw5]
  have I8 := Lib.hid (I7.out.trans q8)
  clear q8
  go_wp2_with fail
  go_ret
  exact ⟨rfl, I8.out⟩
end Go.Proofs.YtmeiboaagkoadaaGreatDoor.P08
/- ShowRead: the walk. -/
namespace Go.Proofs.YtmeiboaagkoadaaGreatDoor.P08
open Go.RowKit Go.Proofs.YtmeiboaagkoadaaGreatDoor.Base Go.Proofs.YtmeiboaagkoadaaGreatDoor.P07
open Go.Proofs.YtmeiboaagkoadaaGreatDoor.Sets (ST)
open Go.Proofs.YtmeiboaagkoadaaGreatDoor.Bytes (Tab)

/-- The document's Same, of one expression and itself. -/
theorem same_self (t : T) (a : Option Addr) (c : Nat) (b : Option Addr) (d : Nat) (w : World) (ha : Lie w (fun _ => True) a t.subs) (hb : Lie w (fun _ => True) b t.subs) :
    Calls Tryz.prog 12 #[nodeV t a c, nodeV t b d] w fun e w' => e = .returned (.bool true) ∧ Keep (fun _ => False) w w' := by
  refine (same_any t t a c b d w ha hb).mono ?_
  rintro e w' ⟨v, rfl, hv, q⟩
  exact ⟨by rw [hv.2 rfl], q⟩
/-- Text of a right one. -/
theorem text_right {t : T} (hR : RT 12 t) (hc : cnt t ≤ 200) (a : Option Addr) (c : Nat) (w : World) (hL : Lie w (fun _ => True) a t.subs) (hT : Tab w) :
    Calls Tryz.prog 7 #[nodeV t a c] w fun e w' => e = .returned (.tuple #[Bytes.str (txt t), .int .i64 0]) ∧ Keep (fun _ => False) w w' := by
  have hs := RT_sok t 12 hR
  have h := cText_any t hs (by omega) a c w hL hT
  rw [show textV t = .tuple #[Bytes.str (txt t), .int .i64 0] from by unfold textV; rw [if_pos ((rightB_iff hs).2 hR)]] at h
  exact h
theorem right_right {t : T} (hR : RT 12 t) (a : Option Addr) (c : Nat) (w : World) (hL : Lie w (fun _ => True) a t.subs) :
    Calls Tryz.prog 8 #[nodeV t a c] w fun e w' => e = .returned (.bool true) ∧ Keep (fun _ => False) w w' := by
  have hs := RT_sok t 12 hR
  have h := cRight_any t hs a c w hL
  rw [(rightB_iff hs).2 hR] at h
  exact h
/-- Its text is read as it was. -/
theorem parse_text {t : T} (hR : RT 12 t) (hc : cnt t ≤ 200) (w : World) :
    Calls Tryz.prog 10 #[Bytes.str (txt t)] w fun e w' => ∃ a c, e = .returned (.tuple #[nodeV t a c, .int .i64 0, .int .i64 0]) ∧ t.subs.length ≤ c ∧ Lie w' (fun k => w.heap.size ≤ k) a t.subs ∧ Keep (fun _ => False) w w' := by
  have hlen := txt_len t (RT_sok t 12 hR)
  exact parse_right8 (text_read (F := (txt t).length + 2) hR (by omega)) (Nat.le_refl _) (by omega) w

end Go.Proofs.YtmeiboaagkoadaaGreatDoor.P08
/- ShowTexts: the walk. -/
namespace Go.Proofs.YtmeiboaagkoadaaGreatDoor.P08
open Go.RowKit Go.Proofs.YtmeiboaagkoadaaGreatDoor.Base Go.Proofs.YtmeiboaagkoadaaGreatDoor.P07
open Go.Proofs.YtmeiboaagkoadaaGreatDoor.Sets (ST)
open Go.Proofs.YtmeiboaagkoadaaGreatDoor.Bytes (Tab)

set_option maxRecDepth 100000 in
set_option maxHeartbeats 8000000 in
theorem show_texts (t : T) (a : Option Addr) (c : Nat) (w : World) (hT : Tab w) (hta : Lie w (fun _ => True) a t.subs) (hc : t.subs.length ≤ c) (ht : cnt t ≤ 1000000000) (hst : SOk t) :
    Calls Tryz.prog 3 #[nodeV t a c] w fun e w' => e = .returned (.bool true) ∧ Keep (fun _ => False) w w' := by
  have q := (Keep.refl (fun _ => False) w).alloc (.cells (ncells t a c) 27)
  have H0 := Lib.hid (And.intro q (Nd.new hc hta))
  have HCT := Lib.hid (And.intro ht (And.intro hT hst))
  clear q hta hc ht hT hst
  go_enter Tryz.func3, Tryz.ntmps3
  go_upto_region 1 with fail
  generalize (w.alloc (.cells (ncells t a c) 27)) = W0 at *
  generalize w.heap.size = n0 at *
  go_wp2_with fail
  refine (awake_true W0 (HCT.out.2.1.keep H0.out.1)).mono ?_
  rintro e w1 ⟨rfl, q1⟩
  have H1 := Lib.hid (And.intro (H0.out.1.trans q1) (H0.out.2.keep q1))
  clear q1
  obtain ⟨x0, x1, x2, x3, x4, x5, x6, x7⟩ := (cells8 H1.out.2.cell).1
  go_wp2_with fail
  refine (few_any t HCT.out.1 a c w1 H1.out.2.lie).mono ?_
  rintro e w2 ⟨rfl, q2⟩
  have H2 := Lib.hid (And.intro (H1.out.1.trans q2) (H1.out.2.keep q2))
  clear q2 x0 x1 x2 x3 x4 x5 x6 x7
  by_cases h1 : sz t ≤ 200
  case neg =>
    have g1 : decide (sz t ≤ 200) = false := decide_eq_false h1
    rw [g1]
    clear g1 h1
    go_wp2_with fail
    refine (awake_true w2 (HCT.out.2.1.keep H2.out.1)).mono ?_
    rintro e w3 ⟨rfl, q3⟩
    have Q3 := Lib.hid (H2.out.1.trans q3)
    clear q3
    go_wp2_with fail
    go_ret
    exact ⟨rfl, Q3.out⟩
  have g1 : decide (sz t ≤ 200) = true := decide_eq_true h1
  rw [g1]
  have HF1 := Lib.hid (few_cnt h1)
  clear g1 h1
  have hcr := fun W hL => cRight_any t HCT.out.2.2 a c W hL
  have hfr := fun W hL => fright_any t HCT.out.1 a c W hL
  have htv : textV t = if rightB t = true then .tuple #[Bytes.str (txt t), .int .i64 0] else .tuple #[Bytes.str [], .int .i64 1] := rfl
  have htx := fun W hL h => cText_any t HCT.out.2.2 (by have := HF1.out; omega) a c W hL (HCT.out.2.1.keep h)
  have hri : rightB t = true → RT 12 t := (rightB_iff HCT.out.2.2).1
  obtain ⟨r, hr⟩ : ∃ r, rightB t = r := ⟨_, rfl⟩
  rw [hr] at hcr hfr htv hri
  rw [htv] at htx
  clear hr htv
  have hS : ∀ wz, Keep (fun _ => False) w2 wz → ∀ w', Keep (fun _ => False) wz w' → Keep (fun _ => False) wz w' ∧ w'.cell? ⟨n0, 0, none⟩ = some (.int .i64 t.kind) ∧ w'.cell? ⟨n0, 1, none⟩ = some (.int .u64 t.set.x0) ∧ w'.cell? ⟨n0, 2, none⟩ = some (.int .u64 t.set.x1) ∧ w'.cell? ⟨n0, 3, none⟩ = some (.int .u64 t.set.x2) ∧ w'.cell? ⟨n0, 4, none⟩ = some (.int .u64 t.set.x3) ∧ w'.cell? ⟨n0, 5, none⟩ = some (.int .i64 t.mn) ∧ w'.cell? ⟨n0, 6, none⟩ = some (.int .i64 t.mx) ∧ w'.cell? ⟨n0, 7, none⟩ = some (.slice a t.subs.length c) := fun wz qz w' q' => by
    have e0 := (H2.out.2.keep (qz.trans q')).cell
    exact ⟨q', e0.cell (o := 0) rfl, e0.cell (o := 1) rfl, e0.cell (o := 2) rfl, e0.cell (o := 3) rfl, e0.cell (o := 4) rfl, e0.cell (o := 5) rfl, e0.cell (o := 6) rfl, e0.cell (o := 7) rfl⟩
  have hL2 := fun wz (qz : Keep (fun _ => False) w2 wz) => (H2.out.2.keep qz).lie
  have HC := Lib.hid (And.intro hcr (And.intro hfr (And.intro htx (And.intro hri (And.intro hS hL2)))))
  clear hcr hfr htx hri hS hL2
  obtain ⟨x0, x1, x2, x3, x4, x5, x6, x7⟩ := (cells8 H2.out.2.cell).1
  go_wp2_with fail
  refine (HC.out.2.2.1 w2 H2.out.2.lie H2.out.1).mono ?_
  rintro e w3 ⟨rfl, q3⟩
  have Q3 := Lib.hid q3
  have HSS := Lib.hid (HC.out.2.2.2.2.1 w3 q3)
  have HLL := Lib.hid (fun wz (qz : Keep (fun _ => False) w3 wz) => HC.out.2.2.2.2.2 wz (q3.trans qz))
  clear q3 x0 x1 x2 x3 x4 x5 x6 x7
  cases r with
  | false =>
    rw [if_neg (by decide)]
    obtain ⟨-, x0, x1, x2, x3, x4, x5, x6, x7⟩ := HSS.out w3 (Keep.refl _ _)
    go_upto_region 4 with fail
    go_region_held3 (fun w' => Keep (fun _ => False) w3 w' ∧ w'.cell? ⟨n0, 0, none⟩ = some (.int .i64 t.kind) ∧ w'.cell? ⟨n0, 1, none⟩ = some (.int .u64 t.set.x0) ∧ w'.cell? ⟨n0, 2, none⟩ = some (.int .u64 t.set.x1) ∧ w'.cell? ⟨n0, 3, none⟩ = some (.int .u64 t.set.x2) ∧ w'.cell? ⟨n0, 4, none⟩ = some (.int .u64 t.set.x3) ∧ w'.cell? ⟨n0, 5, none⟩ = some (.int .i64 t.mn) ∧ w'.cell? ⟨n0, 6, none⟩ = some (.int .i64 t.mx) ∧ w'.cell? ⟨n0, 7, none⟩ = some (.slice a t.subs.length c)) (first | exact HSS.out _ ((Keep.refl _ _).drew) | exact HSS.out _ (Keep.trans (And.left (by assumption)) q)) (first
      | (go_at_call 8; refine (HC.out.1 _ (HLL.out _ (And.left (by assumption)))).mono ?_; rintro e w5 ⟨rfl, q⟩)
      | (go_at_call 9; refine (HC.out.2.1 _ (HLL.out _ (And.left (by assumption)))).mono ?_; rintro e w5 ⟨rfl, q⟩))
    all_goals
      rename_i hh
      obtain ⟨qk, x0, x1, x2, x3, x4, x5, x6, x7⟩ := hh
      have HK := Lib.hid qk
      clear qk
      go_wp2_with fail
      refine (HC.out.2.1 _ (HLL.out _ HK.out)).mono ?_
      rintro e w6 ⟨rfl, q6⟩
      have Q6 := Lib.hid (H2.out.1.trans (Q3.out.trans (HK.out.trans q6)))
      clear q6 x0 x1 x2 x3 x4 x5 x6 x7
      go_wp2_with fail
      go_ret
      exact ⟨rfl, Q6.out⟩
  | true =>
    rw [if_pos rfl]
    have HR := Lib.hid (HC.out.2.2.2.1 rfl)
    have hpt := fun W => parse_text HR.out HF1.out W
    have hft := fun W hL => ftext_any t (by have := HF1.out; omega) 12 HR.out a c W hL
    obtain ⟨X, hX⟩ : ∃ X, txt t = X := ⟨_, rfl⟩
    rw [hX] at hpt hft
    have HP := Lib.hid (And.intro hpt hft)
    rw [hX]
    clear hpt hft hX
    obtain ⟨-, x0, x1, x2, x3, x4, x5, x6, x7⟩ := HSS.out w3 (Keep.refl _ _)
    go_upto_region 4 with fail
    go_region_held3 (fun w' => Keep (fun _ => False) w3 w' ∧ w'.cell? ⟨n0, 0, none⟩ = some (.int .i64 t.kind) ∧ w'.cell? ⟨n0, 1, none⟩ = some (.int .u64 t.set.x0) ∧ w'.cell? ⟨n0, 2, none⟩ = some (.int .u64 t.set.x1) ∧ w'.cell? ⟨n0, 3, none⟩ = some (.int .u64 t.set.x2) ∧ w'.cell? ⟨n0, 4, none⟩ = some (.int .u64 t.set.x3) ∧ w'.cell? ⟨n0, 5, none⟩ = some (.int .i64 t.mn) ∧ w'.cell? ⟨n0, 6, none⟩ = some (.int .i64 t.mx) ∧ w'.cell? ⟨n0, 7, none⟩ = some (.slice a t.subs.length c)) (first | exact HSS.out _ ((Keep.refl _ _).drew) | exact HSS.out _ (Keep.trans (And.left (by assumption)) q)) (first
      | (go_at_call 8; refine (HC.out.1 _ (HLL.out _ (And.left (by assumption)))).mono ?_; rintro e w5 ⟨rfl, q⟩)
      | (go_at_call 9; refine (HC.out.2.1 _ (HLL.out _ (And.left (by assumption)))).mono ?_; rintro e w5 ⟨rfl, q⟩))
    all_goals
      rename_i hh
      obtain ⟨qk, x0, x1, x2, x3, x4, x5, x6, x7⟩ := hh
      have HK := Lib.hid qk
      clear qk
      go_wp2_with fail
      refine (HC.out.2.1 _ (HLL.out _ HK.out)).mono ?_
      rintro e w6 ⟨rfl, q6⟩
      have Q6 := Lib.hid (HK.out.trans q6)
      clear q6 x0 x1 x2 x3 x4 x5 x6 x7
      go_wp2_with fail
      refine (HP.out.1 w6).mono ?_
      rintro e w7 ⟨b, d, rfl, hle, hL, q7⟩
      have Q7 := Lib.hid (And.intro (Nd.new hle hL) (Q6.out.trans (q7.alloc (.cells (ncells t b d) 27))))
      clear q7 hle hL
      go_upto_region 9 with fail
      generalize (w7.alloc (.cells (ncells t b d) 27)) = W7 at *
      generalize w7.heap.size = n7 at *
      obtain ⟨-, x0, x1, x2, x3, x4, x5, x6, x7⟩ := HSS.out W7 Q7.out.2
      go_wp2_with fail
      refine (HP.out.2 W7 (HLL.out _ Q7.out.2)).mono ?_
      rintro e w8 ⟨rfl, q8⟩
      have Q8 := Lib.hid (And.intro (Q7.out.1.keep q8) (Q7.out.2.trans q8))
      clear q8 x0 x1 x2 x3 x4 x5 x6 x7
      obtain ⟨-, x0, x1, x2, x3, x4, x5, x6, x7⟩ := HSS.out w8 Q8.out.2
      obtain ⟨y0, y1, y2, y3, y4, y5, y6, y7⟩ := (cells8 Q8.out.1.cell).1
      have hXX : (X == X) = true := by simp
      go_wp2_with fail
      refine (same_self t a c b d w8 (HLL.out _ Q8.out.2) Q8.out.1.lie).mono ?_
      rintro e w9 ⟨rfl, q9⟩
      have Q9 := Lib.hid (H2.out.1.trans (Q3.out.trans (Q8.out.2.trans q9)))
      clear q9 x0 x1 x2 x3 x4 x5 x6 x7 y0 y1 y2 y3 y4 y5 y6 y7
      go_wp2_with fail
      go_ret
      exact ⟨rfl, Q9.out⟩
end Go.Proofs.YtmeiboaagkoadaaGreatDoor.P08

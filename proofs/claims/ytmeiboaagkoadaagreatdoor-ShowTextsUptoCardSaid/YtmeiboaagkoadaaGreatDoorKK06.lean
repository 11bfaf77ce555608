/- The document's rule (layer 6): one line's name and text, or the place that is wrong. -/
import Derived.Test.YtmeiboaagkoadaaGreatDoorKK05
import Derived.Deep.QuietTactic
import Derived.BigQuiet
namespace Go.Proofs.YtmeiboaagkoadaaGreatDoor.Ref06
open Go.RowKit Go.Proofs.YtmeiboaagkoadaaGreatDoor.Base

/-- The bytes from lo up to hi. -/
def sub (l : List UInt8) (lo hi : Nat) : List UInt8 := (l.take hi).drop lo
theorem sub_cut (l : List UInt8) (lo hi : Nat) : ByteArray.extract ⟨l.toArray⟩ lo hi = ⟨(sub l lo hi).toArray⟩ := by
  apply ByteArray.ext
  simp [sub, List.drop_take]

theorem slice_run (l : List UInt8) (lo hi : Nat) (h1 : lo ≤ hi) (h2 : hi ≤ l.length) (w : World) : (Instr.slice 9 (str l) (some (.int .i64 lo)) (some (.int .i64 hi)) none).run Tryz.prog w = .ok (str (sub l lo hi)) w := by
  have hs := size_str l
  have e := sub_cut l lo hi
  have a3 : (0 : Int) ≤ hi := by omega
  have a4 : (0 : Int) ≤ lo := by omega
  simp [Instr.slice, Instr.sliceBounds, Instr.sliceBound, run_underlying (P := Tryz.prog) Tryz.underlying9, asIntOf, hs, e, h1, h2, a3, a4, go_sem]

/-- From i on over letters, f of them at most. -/
def scan (l : List UInt8) (t : Nat) : Nat → Nat → Nat
  | 0, i => i
  | f + 1, i => if i < t ∧ letB (byteAt l i) = true then scan l t f (i + 1) else i
theorem scan_go {l : List UInt8} {t f i : Nat} (h : i < t) (hb : letB (byteAt l i) = true) : scan l t (f + 1) i = scan l t f (i + 1) := by
  rw [scan, if_pos ⟨h, hb⟩]
theorem scan_out {l : List UInt8} {t f i : Nat} (h : ¬ i < t) : scan l t f i = i := by
  cases f with
  | zero => rfl
  | succ f => rw [scan, if_neg (fun e => h e.1)]
theorem scan_no {l : List UInt8} {t f i : Nat} (hb : letB (byteAt l i) = false) : scan l t f i = i := by
  cases f with
  | zero => rfl
  | succ f => rw [scan, if_neg (fun e => by rw [hb] at e; cases e.2)]
theorem scan_ge (l : List UInt8) (t : Nat) : ∀ f i, i ≤ scan l t f i
  | 0, i => Nat.le_refl _
  | f + 1, i => by
    unfold scan
    split
    · have := scan_ge l t f (i + 1)
      omega
    · exact Nat.le_refl _
theorem scan_le (l : List UInt8) (t : Nat) : ∀ f i, i ≤ t → scan l t f i ≤ t
  | 0, i, h => h
  | f + 1, i, h => by
    unfold scan
    split
    · rename_i k
      exact scan_le l t f (i + 1) k.1
    · exact h

/-- Where the line from a up to t is wrong, or its name ends. -/
def nmEnd (l : List UInt8) (a t : Nat) : Nat := scan l t 12 a
def bad' (l : List UInt8) (i a t : Nat) : Bool := decide (i = t) || decide (byteAt l i ≠ 58) || decide (i = a)
def bad (l : List UInt8) (a t : Nat) : Bool := bad' l (nmEnd l a t) a t
@[reducible] def lineV (n x : List UInt8) (at' : Int) : Value := .agg #[str n, str x, .int .i64 at']

end Go.Proofs.YtmeiboaagkoadaaGreatDoor.Ref06
/- The document's find (layer 6): is there a rule of a name? Over a slice of lines at an address. -/
namespace Go.Proofs.YtmeiboaagkoadaaGreatDoor.Ref06
open Go.RowKit Go.Proofs.YtmeiboaagkoadaaGreatDoor.Base

/-- A line, plain. -/
structure LN where
  name : List UInt8
  text : List UInt8
  place : Int

/-- The lines L lie at a. -/
def LS (w : World) (a : Option Addr) (L : List LN) : Prop :=
  L = [] ∨ ∃ bl off : Nat, a = some ⟨bl, off, none⟩ ∧ bl < w.heap.size ∧ ∀ i r, L[i]? = some r → w.cell? ⟨bl, off + i * 3, none⟩ = some (str r.name) ∧ w.cell? ⟨bl, off + i * 3 + 1, none⟩ = some (str r.text) ∧ w.cell? ⟨bl, off + i * 3 + 2, none⟩ = some (.int .i64 r.place)

theorem LS.keep {S : Nat → Prop} {w w' : World} {a : Option Addr} {L : List LN} (h : LS w a L) (q : Keep S w w') (hn : ∀ x, a = some x → ¬ S x.block) : LS w' a L := by
  rcases h with h | ⟨bl, off, rfl, hb, hc⟩
  · exact .inl h
  · have hS : ¬ S bl := hn ⟨bl, off, none⟩ rfl
    exact .inr ⟨bl, off, rfl, Nat.lt_of_lt_of_le hb q.size, fun i r hr => ⟨(q.cell (a := ⟨bl, off + i * 3, none⟩) hb hS).trans (hc i r hr).1, (q.cell (a := ⟨bl, off + i * 3 + 1, none⟩) hb hS).trans (hc i r hr).2.1, (q.cell (a := ⟨bl, off + i * 3 + 2, none⟩) hb hS).trans (hc i r hr).2.2⟩⟩

theorem LS.get {w : World} {a : Option Addr} {L : List LN} (h : LS w a L) {i : Nat} {r : LN} (hr : L[i]? = some r) : ∃ bl off : Nat, a = some ⟨bl, off, none⟩ ∧ bl < w.heap.size ∧ w.cell? ⟨bl, off + i * 3, none⟩ = some (str r.name) ∧ w.cell? ⟨bl, off + i * 3 + 1, none⟩ = some (str r.text) ∧ w.cell? ⟨bl, off + i * 3 + 2, none⟩ = some (.int .i64 r.place) := by
  rcases h with rfl | ⟨bl, off, rfl, hb, hc⟩
  · simp at hr
  · exact ⟨bl, off, rfl, hb, hc i r hr⟩

/-- Is there one of that name? -/
def findL (L : List LN) (n : List UInt8) : Bool := L.any fun r => decide (r.name = n)
def findTo (L : List LN) (n : List UInt8) (k : Nat) : Bool := (L.take k).any fun r => decide (r.name = n)
theorem findTo_0 (L : List LN) (n : List UInt8) : findTo L n 0 = false := by simp [findTo]
theorem findTo_end (L : List LN) (n : List UInt8) : findTo L n L.length = findL L n := by simp [findTo, findL]
theorem findTo_succ {L : List LN} {n : List UInt8} {k : Nat} {r : LN} (h : L[k]? = some r) : findTo L n (k + 1) = (findTo L n k || decide (r.name = n)) := by
  unfold findTo
  rw [List.take_add_one, h, List.any_append]
  simp
theorem find_yes {L : List LN} {n : List UInt8} {k : Nat} {r : LN} (h : L[k]? = some r) (hn : r.name = n) : findL L n = true := by
  unfold findL
  exact List.any_eq_true.2 ⟨r, List.mem_of_getElem? h, decide_eq_true hn⟩

theorem str_inj {x y : List UInt8} : (⟨x.toArray⟩ : ByteArray) = ⟨y.toArray⟩ ↔ x = y := by
  constructor
  · intro h
    injection h with h
    injection h
  · rintro rfl
    rfl

set_option maxRecDepth 100000 in
set_option maxHeartbeats 1000000 in
theorem find_any (L : List LN) (a : Option Addr) (cap : Nat) (n : List UInt8) (hl : L.length ≤ 1000000) (w : World) (hL : LS w a L) :
    Calls Tryz.prog 45 #[.slice a L.length cap, str n] w fun e w' => e = .returned (.bool (findL L n)) ∧ w = w' := by
  have HL := Lib.hid hL
  clear hL
  go_enter Tryz.func45, Tryz.ntmps45
  go_wp2_with fail
  go_loopg [5] L.length (fun gg i wr => ∃ k : Nat, i = .int .i64 k ∧ k + gg = L.length ∧ findTo L n k = false ∧ w = wr)
  case atStart => exact ⟨0, rfl, by omega, findTo_0 L n, rfl⟩
  case round =>
    obtain ⟨k, rfl, hk, hE, rfl⟩ := hrel
    have HE := Lib.hid hE
    clear hE
    by_cases hlt : k < L.length
    · have hlt' : (k : Int) < L.length := by omega
      obtain ⟨r, hr⟩ : ∃ r, L[k]? = some r := ⟨L[k], List.getElem?_eq_getElem hlt⟩
      obtain ⟨bl, off, rfl, -, c0, -, -⟩ := HL.out.get hr
      have hsu := findTo_succ (n := n) hr
      by_cases hn : r.name = n
      · have hy := find_yes hr hn
        have HY := Lib.hid hy
        rw [hn] at c0
        clear hy hr hsu hn
        go_wp2_with fail
        go_ret
        exact ⟨ret_bool HY.out.symm, rfl⟩
      · have hne : (r.name == n) = false := by simpa using hn
        have HS := Lib.hid (And.intro hsu hn)
        clear hr hsu hn
        go_wp2_with fail
        go_roundg (L.length - (k + 1))
        case measure => omega
        case rel => exact ⟨k + 1, by go_num, by omega, by rw [HS.out.1, HE.out, decide_eq_false HS.out.2]; rfl, rfl⟩
    · have hke : k = L.length := by omega
      subst hke
      go_wp2_with fail
      go_ret
      exact ⟨ret_bool (by rw [← findTo_end, HE.out]), rfl⟩
end Go.Proofs.YtmeiboaagkoadaaGreatDoor.Ref06
/- Package rules: inName, mayFollow (its search by slices.ContainsFunc over a function of its own). -/
namespace Go.Proofs.YtmeiboaagkoadaaGreatDoor.Ref06
open Go.RowKit Go.Proofs.YtmeiboaagkoadaaGreatDoor.Base

theorem inName_any (b : Nat) (hb : b < 256) (w : World) : Calls Tryz.prog 50 #[.int .u8 b] w fun e w' => e = .returned (.bool (letB b)) ∧ w = w' := by
  go_enter Tryz.func50, Tryz.ntmps50
  go_wp2
  all_goals
    go_ret
    exact ⟨ret_bool (by unfold letB; rw [Bool.eq_iff_iff]; simp; omega), rfl⟩
theorem inName_is {b : Nat} {v : Bool} (hb : b < 256) (h : letB b = v) (w : World) : Calls Tryz.prog 50 #[.int .u8 b] w fun e w' => e = .returned (.bool v) ∧ w = w' := by
  rw [← h]
  exact inName_any b hb w

/-- The function that is handed to ContainsFunc. -/
theorem pred_any (r : LN) (n : List UInt8) (pb : Nat) (w : World) (hp : At w pb 9 #[str n]) :
    Calls Tryz.prog 69 #[lineV r.name r.text r.place, .pointer (some ⟨pb, 0, none⟩)] w fun e w' => e = .returned (.bool (decide (r.name = n))) ∧ Keep (fun _ => False) w w' := by
  have c0 := (hp.alloc (.cells #[str r.name, str r.text, .int .i64 r.place] 57)).cell (o := 0) rfl
  have q := (Keep.refl (fun _ => False) w).alloc (.cells #[str r.name, str r.text, .int .i64 r.place] 57)
  have hlt := hp.lt
  have hne : pb ≠ w.heap.size := by omega
  have H := Lib.hid q
  clear q hp
  by_cases hn : r.name = n
  · subst hn
    go_enter Tryz.func69, Tryz.ntmps69
    go_wp2_with fail
    go_ret
    exact ⟨ret_bool (by simp), H.out⟩
  · have hne2 : (r.name == n) = false := by simpa using hn
    have HN := Lib.hid hn
    clear hn
    go_enter Tryz.func69, Tryz.ntmps69
    go_wp2_with fail
    go_ret
    exact ⟨ret_bool (by simp [HN.out]), H.out⟩

set_option maxRecDepth 100000 in
set_option maxHeartbeats 1000000 in
theorem idx_any (L : List LN) (a : Option Addr) (cap : Nat) (n : List UInt8) (pb : Nat) (hl : L.length ≤ 1000000) (w : World) (hL : LS w a L) (hp : At w pb 9 #[str n]) :
    Calls Tryz.prog 81 #[.slice a L.length cap, .func (.func 69) #[] #[.pointer (some ⟨pb, 0, none⟩)]] w fun e w' => ∃ i : Int, e = .returned (.int .i64 i) ∧ (findL L n = decide (0 ≤ i)) ∧ Keep (fun _ => False) w w' := by
  have HL := Lib.hid (And.intro (fun (w' : World) (q : Keep (fun _ => False) w w') => hL.keep q (fun _ _ h => h)) (fun (w' : World) (q : Keep (fun _ => False) w w') => hp.keep q (fun h => h)))
  clear hL hp
  go_enter Tryz.func81, Tryz.ntmps81
  go_wp2_with fail
  go_loopg [5, 8] L.length (fun gg _ i wr => ∃ k : Nat, i = .int .i64 k ∧ k + gg = L.length ∧ findTo L n k = false ∧ Keep (fun _ => False) w wr)
  case atStart => exact ⟨0, rfl, by omega, findTo_0 L n, Keep.refl _ _⟩
  case round =>
    obtain ⟨k, rfl, hk, hE, hq⟩ := hrel
    by_cases hlt : k < L.length
    · have hlt' : (k : Int) < L.length := by omega
      obtain ⟨r, hr⟩ : ∃ r, L[k]? = some r := ⟨L[k], List.getElem?_eq_getElem hlt⟩
      obtain ⟨bl, off, rfl, -, c0, c1, c2⟩ := (HL.out.1 _ hq).get hr
      have hsu := findTo_succ (n := n) hr
      have hy := fun h => find_yes (n := n) hr h
      have H := Lib.hid (And.intro hE (And.intro hq (And.intro hsu (And.intro hy (pred_any r n pb wr (HL.out.2 _ hq))))))
      clear hE hq hsu hy hr
      obtain ⟨v, hv⟩ : ∃ v, decide (r.name = n) = v := ⟨_, rfl⟩
      have HV := Lib.hid hv
      clear hv
      go_wp2_with fail
      refine H.out.2.2.2.2.mono ?_
      rintro e w' ⟨rfl, q'⟩
      rw [HV.out]
      have Q := Lib.hid q'
      clear q'
      cases v
      · go_wp2_with fail
        go_roundg (L.length - (k + 1))
        case measure => omega
        case rel => exact ⟨k + 1, by go_num, by omega, by rw [H.out.2.2.1, H.out.1, HV.out]; rfl, H.out.2.1.trans Q.out⟩
      · go_wp2_with fail
        go_ret
        exact ⟨_, rfl, by rw [H.out.2.2.2.1 (of_decide_eq_true HV.out)]; simp, H.out.2.1.trans Q.out⟩
    · have hke : k = L.length := by omega
      subst hke
      have hf : findL L n = false := by rw [← findTo_end, hE]
      have H := Lib.hid (And.intro hf hq)
      clear hf hq hE
      go_wp2_with fail
      go_ret
      exact ⟨_, rfl, by rw [H.out.1]; rfl, H.out.2⟩

theorem contains_any (L : List LN) (a : Option Addr) (cap : Nat) (n : List UInt8) (pb : Nat) (hl : L.length ≤ 1000000) (w : World) (hL : LS w a L) (hp : At w pb 9 #[str n]) :
    Calls Tryz.prog 68 #[.slice a L.length cap, .func (.func 69) #[] #[.pointer (some ⟨pb, 0, none⟩)]] w fun e w' => e = .returned (.bool (findL L n)) ∧ Keep (fun _ => False) w w' := by
  have H := Lib.hid (idx_any L a cap n pb hl w hL hp)
  clear hL hp
  go_enter Tryz.func68, Tryz.ntmps68
  go_wp2_with fail
  refine H.out.mono ?_
  rintro e w' ⟨i, rfl, hi, q⟩
  have HI := Lib.hid (And.intro hi q)
  clear hi q
  go_wp2_with fail
  go_ret
  exact ⟨ret_bool (by rw [HI.out.1]), HI.out.2⟩

/-- May a rule of that name stand behind these ones? -/
def mayB (L : List LN) (n : List UInt8) : Bool := decide (L.length < 8) && !findL L n

set_option maxRecDepth 100000 in
set_option maxHeartbeats 1000000 in
theorem may_any (L : List LN) (a : Option Addr) (cap : Nat) (n : List UInt8) (hl : L.length ≤ 1000000) (w : World) (hL : LS w a L) :
    Calls Tryz.prog 48 #[.slice a L.length cap, str n] w fun e w' => e = .returned (.bool (mayB L n)) ∧ Keep (fun _ => False) w w' := by
  have q0 := (Keep.refl (fun _ => False) w).alloc (.cells #[str n] 9)
  have hcall := contains_any L a cap n w.heap.size hl (w.alloc (.cells #[str n] 9)) (hL.keep q0 (fun _ _ h => h)) (At.new w _ _)
  have H := Lib.hid (And.intro q0 hcall)
  clear q0 hcall hL
  obtain ⟨v, hv⟩ : ∃ v, findL L n = v := ⟨_, rfl⟩
  by_cases h8 : L.length < 8
  · have h8' : (L.length : Int) < 8 := by omega
    have hm : mayB L n = !v := by unfold mayB; rw [decide_eq_true h8, hv]; rfl
    have HM := Lib.hid (And.intro hm hv)
    clear hm hv
    go_enter Tryz.func48, Tryz.ntmps48
    go_wp2_with fail
    refine H.out.2.mono ?_
    rintro e w' ⟨rfl, q⟩
    rw [HM.out.2]
    have Q := Lib.hid q
    clear q
    go_wp2_with fail
    go_ret
    exact ⟨ret_bool HM.out.1.symm, H.out.1.trans Q.out⟩
  · have h8' : ¬ (L.length : Int) < 8 := by omega
    have hm : mayB L n = false := by unfold mayB; rw [decide_eq_false h8]; rfl
    have HM := Lib.hid hm
    clear hm hv
    go_enter Tryz.func48, Tryz.ntmps48
    go_wp2_with fail
    go_ret
    exact ⟨ret_bool HM.out.symm, H.out.1⟩
end Go.Proofs.YtmeiboaagkoadaaGreatDoor.Ref06
/- The document's Join (layer 6). -/
namespace Go.Proofs.YtmeiboaagkoadaaGreatDoor.Ref06
open Go.RowKit Go.Proofs.YtmeiboaagkoadaaGreatDoor.Base

theorem str_append (a b : List UInt8) : (ByteArray.mk a.toArray ++ ByteArray.mk b.toArray) = ⟨(a ++ b).toArray⟩ := by
  apply ByteArray.ext
  simp

def textOk (r : LN) : Bool := decide (endN r.text 0 = r.text.length)
def okAt (L : List LN) (k : Nat) (r : LN) : Bool := nameL r.name && !findL (L.take k) r.name && textOk r
def okTo (L : List LN) (k : Nat) : Bool := (List.range k).all fun i => match L[i]? with | some r => okAt L i r | none => true
def fileTo (L : List LN) (k : Nat) : List UInt8 := (L.take k).flatMap fun r => r.name ++ [58] ++ r.text ++ [10]
def joinR (L : List LN) : Option (List UInt8) := if okTo L L.length = true ∧ 1 ≤ L.length ∧ L.length ≤ 8 ∧ (fileTo L L.length).length ≤ 1000 then some (fileTo L L.length) else none

theorem okTo_succ {L : List LN} {k : Nat} {r : LN} (h : L[k]? = some r) : okTo L (k + 1) = (okTo L k && okAt L k r) := by
  unfold okTo
  rw [List.range_succ, List.all_append]
  simp [h]
theorem okTo_mono {L : List LN} {k n : Nat} (h : k ≤ n) (hn : okTo L n = true) : okTo L k = true := by
  unfold okTo at *
  rw [List.all_eq_true] at *
  intro i hi
  exact hn i (List.mem_range.2 (Nat.lt_of_lt_of_le (List.mem_range.1 hi) h))
theorem join_no {L : List LN} {k : Nat} {r : LN} (h : L[k]? = some r) (hn : okAt L k r = false) : joinR L = none := by
  unfold joinR
  rw [if_neg]
  rintro ⟨e, -⟩
  have hk : k < L.length := (List.getElem?_eq_some_iff.1 h).1
  have := okTo_mono (L := L) (k := k + 1) hk e
  rw [okTo_succ h, hn, Bool.and_false] at this
  cases this
theorem fileTo_succ {L : List LN} {k : Nat} {r : LN} (h : L[k]? = some r) : fileTo L (k + 1) = fileTo L k ++ (r.name ++ [58] ++ r.text ++ [10]) := by
  unfold fileTo
  rw [List.take_add_one, h, List.flatMap_append]
  simp

theorem fileTo_len {L : List LN} : ∀ {k}, k ≤ L.length → (∀ r ∈ L, r.name.length ≤ 4000000 ∧ r.text.length ≤ 4000000) → (fileTo L k).length ≤ k * 8000002
  | 0, _, _ => by simp [fileTo]
  | k + 1, h, hb => by
    have hr : L[k]? = some L[k] := List.getElem?_eq_getElem h
    have := fileTo_len (k := k) (by omega) hb
    have := hb L[k] (List.getElem_mem h)
    rw [fileTo_succ hr]
    simp
    omega

theorem name_is {l : List UInt8} {v : Bool} (h : nameL l = v) (hl : l.length ≤ 1000000000) (w : World) : Calls Tryz.prog 44 #[str l] w fun e w' => e = .returned (.bool v) ∧ w = w' := by
  rw [← h]
  exact name_any l hl w
theorem find_is {M : List LN} {n : List UInt8} {k cap : Nat} {a : Option Addr} {v : Bool} (hk : M.length = k) (h : findL M n = v) (hl : k ≤ 1000000) (w : World) (hL : LS w a M) : Calls Tryz.prog 45 #[.slice a k cap, str n] w fun e w' => e = .returned (.bool v) ∧ w = w' := by
  subst hk
  rw [← h]
  exact find_any M a cap n hl w hL
theorem LS.take {w : World} {a : Option Addr} {L : List LN} (h : LS w a L) (k : Nat) : LS w a (L.take k) := by
  rcases h with rfl | ⟨bl, off, rfl, hb, hc⟩
  · exact .inl (by simp)
  · refine .inr ⟨bl, off, rfl, hb, fun i r hr => hc i r ?_⟩
    rw [List.getElem?_take] at hr
    split at hr
    · exact hr
    · cases hr

/-- What Join answers. -/
def IsJoin (R : Option (List UInt8)) (w : World) (e : Ending) (w' : World) : Prop := Keep (fun _ => False) w w' ∧ e = .returned (match R with | some s => .tuple #[str s, .bool true] | none => .tuple #[str [], .bool false])

set_option maxRecDepth 100000 in
set_option maxHeartbeats 2000000 in
theorem rjoin_any (L : List LN) (a : Option Addr) (cap : Nat) (hcap : L.length ≤ cap) (hl : L.length ≤ 30) (hb : ∀ r ∈ L, r.name.length ≤ 4000000 ∧ r.text.length ≤ 4000000) (w : World) (hL : LS w a L) :
    Calls Tryz.prog 25 #[.slice a L.length cap] w (IsJoin (joinR L) w) := by
  have HL := Lib.hid (And.intro (fun (w' : World) (q : Keep (fun _ => False) w w') => hL.keep q (fun _ _ h => h)) hb)
  clear hL hb
  obtain ⟨R, hR⟩ : ∃ R, joinR L = R := ⟨_, rfl⟩
  rw [hR]
  have HR := Lib.hid hR
  clear hR
  go_enter Tryz.func25, Tryz.ntmps25
  go_wp2_with fail
  go_loopg [4, 5] L.length (fun gg u i wr => ∃ k : Nat, u = str (fileTo L k) ∧ i = .int .i64 k ∧ k + gg = L.length ∧ okTo L k = true ∧ Keep (fun _ => False) w wr)
  case atStart => exact ⟨0, rfl, rfl, by omega, rfl, Keep.refl _ _⟩
  case round =>
    obtain ⟨k, rfl, rfl, hk, hE, hq⟩ := hrel
    by_cases hlt : k < L.length
    · have hlt' : (k : Int) < L.length := by omega
      obtain ⟨r, hr⟩ : ∃ r, L[k]? = some r := ⟨L[k], List.getElem?_eq_getElem hlt⟩
      have hls := HL.out.1 _ hq
      obtain ⟨bl, off, rfl, -, c0, c1, -⟩ := hls.get hr
      have hbr := HL.out.2 r (List.mem_of_getElem? hr)
      have hfs := fileTo_succ hr
      have hos := okTo_succ hr
      have hno := fun h => join_no hr h
      have hok : okAt L k r = (nameL r.name && !findL (L.take k) r.name && textOk r) := rfl
      have hlt2 : (L.take k).length = k := by simp; omega
      obtain ⟨x, hx⟩ : ∃ x, nameL r.name = x := ⟨_, rfl⟩
      obtain ⟨y, hy⟩ : ∃ y, findL (L.take k) r.name = y := ⟨_, rfl⟩
      rw [hx, hy] at hok
      have H := Lib.hid (And.intro hE (And.intro hq (And.intro hfs (And.intro hos (And.intro hno (And.intro hok (And.intro hx (And.intro hy (And.intro hls hlt2)))))))))
      clear hE hq hfs hos hno hok hx hy hls hlt2 hr
      have i0 : (0 : Int) ≤ k := by omega
      have i1 : (k : Int) ≤ cap := by omega
      have i2 : k ≤ cap := by omega
      cases x
      · have hRn : R = none := by rw [← HR.out]; exact H.out.2.2.2.2.1 (by rw [H.out.2.2.2.2.2.1]; rfl)
        have HN := Lib.hid hRn
        clear hRn
        go_wp2_with fail
        go_quiet ((go_at_call 44; exact quiet_same (name_is H.out.2.2.2.2.2.2.1 (by omega) _)))
        go_wp2_with fail
        exact bodyPost_ret (v := .tuple #[str [], .bool false]) (by simp [results, Tryz.results25, go_sem]) rfl ⟨H.out.2.1.drewN _, by rw [HN.out]⟩
      · cases y
        · obtain ⟨E, hEe⟩ : ∃ E, endN r.text 0 = E := ⟨_, rfl⟩
          have hend := fun w => end_any r.text (by omega) 0 (Nat.zero_le _) w
          rw [hEe] at hend
          have hEl : E ≤ r.text.length := by rw [← hEe]; exact endN_le (Nat.zero_le _)
          have htx : textOk r = decide (E = r.text.length) := by unfold textOk; rw [hEe]
          have HEn := Lib.hid hend
          have HTx := Lib.hid htx
          clear hend htx hEe
          have hs1 := size_str r.text
          by_cases hbad : E < r.text.length
          · have hRn : R = none := by
              rw [← HR.out]
              refine H.out.2.2.2.2.1 ?_
              rw [H.out.2.2.2.2.2.1, HTx.out, decide_eq_false (by omega)]
              rfl
            have HN := Lib.hid hRn
            clear hRn
            have hbad' : (E : Int) < r.text.length := by omega
            go_wp2_with fail
            go_quiet (first | (go_at_call 44; exact quiet_same (name_is H.out.2.2.2.2.2.2.1 (by omega) _)) | (go_at_call 45; exact quiet_same (find_is H.out.2.2.2.2.2.2.2.2.2 H.out.2.2.2.2.2.2.2.1 (by omega) _ ((H.out.2.2.2.2.2.2.2.2.1.take k).keep ((Keep.refl (fun _ => False) _).drewN _) (fun _ _ h => h)))) | (go_at_call 46; exact quiet_same (HEn.out _)))
            go_wp2_with fail
            exact bodyPost_ret (v := .tuple #[str [], .bool false]) (by simp [results, Tryz.results25, go_sem]) rfl ⟨H.out.2.1.drewN _, by rw [HN.out]⟩
          · have hgood : okTo L (k + 1) = true := by
              rw [H.out.2.2.2.1, H.out.1, H.out.2.2.2.2.2.1, HTx.out, decide_eq_true (by omega)]
              rfl
            have HG := Lib.hid hgood
            clear hgood
            have hbad' : ¬ (E : Int) < r.text.length := by omega
            have z0 := size_str r.name
            have z1 := size_str (r.name ++ [58])
            have z2 := size_str (r.name ++ [58] ++ r.text)
            have z3 := size_str (r.name ++ [58] ++ r.text ++ [10])
            have z4 := size_str (fileTo L k)
            have y1 : (r.name ++ [58]).length = r.name.length + 1 := by simp
            have y2 : (r.name ++ [58] ++ r.text).length = r.name.length + 1 + r.text.length := by simp; omega
            have y3 : (r.name ++ [58] ++ r.text ++ [10]).length = r.name.length + 1 + r.text.length + 1 := by simp; omega
            have y4 := fileTo_len (k := k) (by omega) HL.out.2
            rw [y1] at z1
            rw [y2] at z2
            rw [y3] at z3
            clear y1 y2 y3
            have t1 := str_append r.name [58]
            have t2 := str_append (r.name ++ [58]) r.text
            have t3 := str_append (r.name ++ [58] ++ r.text) [10]
            have t4 := str_append (fileTo L k) (r.name ++ [58] ++ r.text ++ [10])
            obtain ⟨b1, e1⟩ : ∃ b : ByteArray, (⟨(r.name ++ [58]).toArray⟩ : ByteArray) = b := ⟨_, rfl⟩
            obtain ⟨b2, e2⟩ : ∃ b : ByteArray, (⟨(r.name ++ [58] ++ r.text).toArray⟩ : ByteArray) = b := ⟨_, rfl⟩
            obtain ⟨b3, e3⟩ : ∃ b : ByteArray, (⟨(r.name ++ [58] ++ r.text ++ [10]).toArray⟩ : ByteArray) = b := ⟨_, rfl⟩
            obtain ⟨b4, e4⟩ : ∃ b : ByteArray, (⟨(fileTo L k ++ (r.name ++ [58] ++ r.text ++ [10])).toArray⟩ : ByteArray) = b := ⟨_, rfl⟩
            rw [e1] at t1 t2 z1
            rw [e2] at t2 t3 z2
            rw [e3] at t3 t4 z3
            rw [e4] at t4
            have E4 := Lib.hid e4
            clear e1 e2 e3 e4
            go_wp2_with fail
            go_quiet (first | (go_at_call 44; exact quiet_same (name_is H.out.2.2.2.2.2.2.1 (by omega) _)) | (go_at_call 45; exact quiet_same (find_is H.out.2.2.2.2.2.2.2.2.2 H.out.2.2.2.2.2.2.2.1 (by omega) _ ((H.out.2.2.2.2.2.2.2.2.1.take k).keep ((Keep.refl (fun _ => False) _).drewN _) (fun _ _ h => h)))) | (go_at_call 46; exact quiet_same (HEn.out _)))
            go_wp2_with fail
            go_quiet (fail)
            go_wp2_with fail
            go_roundg (L.length - (k + 1))
            case measure => omega
            case rel => exact ⟨k + 1, by rw [H.out.2.2.1]; unfold str; rw [E4.out], by go_num, by omega, HG.out, by first | exact (H.out.2.1.drewN _).drewN _ | exact H.out.2.1.drewN _⟩
        · have hRn : R = none := by rw [← HR.out]; exact H.out.2.2.2.2.1 (by rw [H.out.2.2.2.2.2.1]; rfl)
          have HN := Lib.hid hRn
          clear hRn
          go_wp2_with fail
          go_quiet (first | (go_at_call 44; exact quiet_same (name_is H.out.2.2.2.2.2.2.1 (by omega) _)) | (go_at_call 45; exact quiet_same (find_is H.out.2.2.2.2.2.2.2.2.2 H.out.2.2.2.2.2.2.2.1 (by omega) _ ((H.out.2.2.2.2.2.2.2.2.1.take k).keep ((Keep.refl (fun _ => False) _).drewN _) (fun _ _ h => h)))))
          go_wp2_with fail
          exact bodyPost_ret (v := .tuple #[str [], .bool false]) (by simp [results, Tryz.results25, go_sem]) rfl ⟨H.out.2.1.drewN _, by rw [HN.out]⟩
    · have hke : k = L.length := by omega
      subst hke
      have hs := size_str (fileTo L L.length)
      have hj : joinR L = if 1 ≤ L.length ∧ L.length ≤ 8 ∧ (fileTo L L.length).length ≤ 1000 then some (fileTo L L.length) else none := by
        unfold joinR
        simp only [hE, true_and]
      rw [HR.out] at hj
      have H := Lib.hid (And.intro hq hj)
      clear hq hj hE
      generalize fileTo L L.length = s at *
      by_cases h1 : 1 ≤ L.length
      · by_cases h8 : L.length ≤ 8
        · by_cases h1k : s.length ≤ 1000
          · have e1 : ¬ (L.length : Int) < 1 := by omega
            have e2 : ¬ (8 : Int) < L.length := by omega
            have e3 : ¬ (1000 : Int) < s.length := by omega
            go_wp2_with fail
            exact bodyPost_ret (v := .tuple #[str s, .bool true]) (by simp [results, Tryz.results25, go_sem]) rfl ⟨H.out.1, by rw [H.out.2, if_pos ⟨h1, h8, h1k⟩]⟩
          · have e1 : ¬ (L.length : Int) < 1 := by omega
            have e2 : ¬ (8 : Int) < L.length := by omega
            have e3 : (1000 : Int) < s.length := by omega
            go_wp2_with fail
            exact bodyPost_ret (v := .tuple #[str [], .bool false]) (by simp [results, Tryz.results25, go_sem]) rfl ⟨H.out.1, by rw [H.out.2, if_neg (fun h => h1k h.2.2)]⟩
        · have e1 : ¬ (L.length : Int) < 1 := by omega
          have e2 : (8 : Int) < L.length := by omega
          go_wp2_with fail
          exact bodyPost_ret (v := .tuple #[str [], .bool false]) (by simp [results, Tryz.results25, go_sem]) rfl ⟨H.out.1, by rw [H.out.2, if_neg (fun h => h8 h.2.1)]⟩
      · have e1 : (L.length : Int) < 1 := by omega
        go_wp2_with fail
        exact bodyPost_ret (v := .tuple #[str [], .bool false]) (by simp [results, Tryz.results25, go_sem]) rfl ⟨H.out.1, by rw [H.out.2, if_neg (fun h => h1 h.1)]⟩
end Go.Proofs.YtmeiboaagkoadaaGreatDoor.Ref06

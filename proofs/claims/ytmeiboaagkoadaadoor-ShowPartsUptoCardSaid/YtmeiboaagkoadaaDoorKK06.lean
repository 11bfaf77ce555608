/- The document's rule (layer 6): one line's name and text, or the place that is wrong. -/
import Derived.Test.YtmeiboaagkoadaaDoorKK05
import Derived.Deep.QuietTactic
import Derived.BigQuiet
namespace Go.Proofs.YtmeiboaagkoadaaDoor.Ref06
open Go.RowKit Go.Proofs.YtmeiboaagkoadaaDoor.Base

/-- The bytes from lo up to hi. -/
def sub (l : List UInt8) (lo hi : Nat) : List UInt8 := (l.take hi).drop lo
theorem sub_cut (l : List UInt8) (lo hi : Nat) : ByteArray.extract ⟨l.toArray⟩ lo hi = ⟨(sub l lo hi).toArray⟩ := by
  apply ByteArray.ext
  simp [sub, List.drop_take]

theorem slice_run (l : List UInt8) (lo hi : Nat) (h1 : lo ≤ hi) (h2 : hi ≤ l.length) (w : World) : (Instr.slice 9 (str l) (some (.int .i64 lo)) (some (.int .i64 hi)) none).run Tryd.prog w = .ok (str (sub l lo hi)) w := by
  have hs := size_str l
  have e := sub_cut l lo hi
  have a3 : (0 : Int) ≤ hi := by omega
  have a4 : (0 : Int) ≤ lo := by omega
  simp [Instr.slice, Instr.sliceBounds, Instr.sliceBound, run_underlying (P := Tryd.prog) Tryd.underlying9, asIntOf, hs, e, h1, h2, a3, a4, go_sem]

/-- From i on over letters, f of them at most. -/
def scan (l : List UInt8) (t : Nat) : Nat → Nat → Nat
  | 0, i => i
  | f + 1, i => if i < t ∧ letB (byteAt l i) = true then scan l t f (i + 1) else i
theorem scan_go {l : List UInt8} {t f i : Nat} (h : i < t) (hb : letB (byteAt l i) = true) : scan l t (f + 1) i = scan l t f (i + 1) := by
  rw [scan, if_pos ⟨h, hb⟩]
theorem scan_out {l : List UInt8} {t f i : Nat} (h : ¬ i < t) : scan l t f i = i := by
  cases f with
  | zero => rfl
  | succ f => rw [scan, if_neg (fun e => h e.1)]
theorem scan_no {l : List UInt8} {t f i : Nat} (hb : letB (byteAt l i) = false) : scan l t f i = i := by
  cases f with
  | zero => rfl
  | succ f => rw [scan, if_neg (fun e => by rw [hb] at e; cases e.2)]
theorem scan_ge (l : List UInt8) (t : Nat) : ∀ f i, i ≤ scan l t f i
  | 0, i => Nat.le_refl _
  | f + 1, i => by
    unfold scan
    split
    · have := scan_ge l t f (i + 1)
      omega
    · exact Nat.le_refl _
theorem scan_le (l : List UInt8) (t : Nat) : ∀ f i, i ≤ t → scan l t f i ≤ t
  | 0, i, h => h
  | f + 1, i, h => by
    unfold scan
    split
    · rename_i k
      exact scan_le l t f (i + 1) k.1
    · exact h

/-- Where the line from a up to t is wrong, or its name ends. -/
def nmEnd (l : List UInt8) (a t : Nat) : Nat := scan l t 12 a
def bad' (l : List UInt8) (i a t : Nat) : Bool := decide (i = t) || decide (byteAt l i ≠ 58) || decide (i = a)
def bad (l : List UInt8) (a t : Nat) : Bool := bad' l (nmEnd l a t) a t
@[reducible] def lineV (n x : List UInt8) (at' : Int) : Value := .agg #[str n, str x, .int .i64 at']

end Go.Proofs.YtmeiboaagkoadaaDoor.Ref06
/- The document's find (layer 6): is there a rule of a name? Over a slice of lines at an address. -/
namespace Go.Proofs.YtmeiboaagkoadaaDoor.Ref06
open Go.RowKit Go.Proofs.YtmeiboaagkoadaaDoor.Base

/-- A line, plain. -/
structure LN where
  name : List UInt8
  text : List UInt8
  place : Int

/-- The lines L lie at a. -/
def LS (w : World) (a : Option Addr) (L : List LN) : Prop :=
  L = [] ∨ ∃ bl off : Nat, a = some ⟨bl, off, none⟩ ∧ bl < w.heap.size ∧ ∀ i r, L[i]? = some r → w.cell? ⟨bl, off + i * 3, none⟩ = some (str r.name) ∧ w.cell? ⟨bl, off + i * 3 + 1, none⟩ = some (str r.text) ∧ w.cell? ⟨bl, off + i * 3 + 2, none⟩ = some (.int .i64 r.place)

theorem LS.keep {S : Nat → Prop} {w w' : World} {a : Option Addr} {L : List LN} (h : LS w a L) (q : Keep S w w') (hn : ∀ x, a = some x → ¬ S x.block) : LS w' a L := by
  rcases h with h | ⟨bl, off, rfl, hb, hc⟩
  · exact .inl h
  · have hS : ¬ S bl := hn ⟨bl, off, none⟩ rfl
    exact .inr ⟨bl, off, rfl, Nat.lt_of_lt_of_le hb q.size, fun i r hr => ⟨(q.cell (a := ⟨bl, off + i * 3, none⟩) hb hS).trans (hc i r hr).1, (q.cell (a := ⟨bl, off + i * 3 + 1, none⟩) hb hS).trans (hc i r hr).2.1, (q.cell (a := ⟨bl, off + i * 3 + 2, none⟩) hb hS).trans (hc i r hr).2.2⟩⟩

theorem LS.get {w : World} {a : Option Addr} {L : List LN} (h : LS w a L) {i : Nat} {r : LN} (hr : L[i]? = some r) : ∃ bl off : Nat, a = some ⟨bl, off, none⟩ ∧ bl < w.heap.size ∧ w.cell? ⟨bl, off + i * 3, none⟩ = some (str r.name) ∧ w.cell? ⟨bl, off + i * 3 + 1, none⟩ = some (str r.text) ∧ w.cell? ⟨bl, off + i * 3 + 2, none⟩ = some (.int .i64 r.place) := by
  rcases h with rfl | ⟨bl, off, rfl, hb, hc⟩
  · simp at hr
  · exact ⟨bl, off, rfl, hb, hc i r hr⟩

/-- Is there one of that name? -/
def findL (L : List LN) (n : List UInt8) : Bool := L.any fun r => decide (r.name = n)
def findTo (L : List LN) (n : List UInt8) (k : Nat) : Bool := (L.take k).any fun r => decide (r.name = n)
theorem findTo_0 (L : List LN) (n : List UInt8) : findTo L n 0 = false := by simp [findTo]
theorem findTo_end (L : List LN) (n : List UInt8) : findTo L n L.length = findL L n := by simp [findTo, findL]
theorem findTo_succ {L : List LN} {n : List UInt8} {k : Nat} {r : LN} (h : L[k]? = some r) : findTo L n (k + 1) = (findTo L n k || decide (r.name = n)) := by
  unfold findTo
  rw [List.take_add_one, h, List.any_append]
  simp
theorem find_yes {L : List LN} {n : List UInt8} {k : Nat} {r : LN} (h : L[k]? = some r) (hn : r.name = n) : findL L n = true := by
  unfold findL
  exact List.any_eq_true.2 ⟨r, List.mem_of_getElem? h, decide_eq_true hn⟩

theorem str_inj {x y : List UInt8} : (⟨x.toArray⟩ : ByteArray) = ⟨y.toArray⟩ ↔ x = y := by
  constructor
  · intro h
    injection h with h
    injection h
  · rintro rfl
    rfl

end Go.Proofs.YtmeiboaagkoadaaDoor.Ref06
/- Package rules: inName, mayFollow (its search by slices.ContainsFunc over a function of its own). -/
namespace Go.Proofs.YtmeiboaagkoadaaDoor.Ref06
open Go.RowKit Go.Proofs.YtmeiboaagkoadaaDoor.Base

theorem inName_any (b : Nat) (hb : b < 256) (w : World) : Calls Tryd.prog 37 #[.int .u8 b] w fun e w' => e = .returned (.bool (letB b)) ∧ w = w' := by
  go_enter Tryd.func37, Tryd.ntmps37
  go_wp2
  all_goals
    go_ret
    exact ⟨ret_bool (by unfold letB; rw [Bool.eq_iff_iff]; simp; omega), rfl⟩
theorem inName_is {b : Nat} {v : Bool} (hb : b < 256) (h : letB b = v) (w : World) : Calls Tryd.prog 37 #[.int .u8 b] w fun e w' => e = .returned (.bool v) ∧ w = w' := by
  rw [← h]
  exact inName_any b hb w

/-- The function that is handed to ContainsFunc. -/
theorem pred_any (r : LN) (n : List UInt8) (pb : Nat) (w : World) (hp : At w pb 9 #[str n]) :
    Calls Tryd.prog 51 #[lineV r.name r.text r.place, .pointer (some ⟨pb, 0, none⟩)] w fun e w' => e = .returned (.bool (decide (r.name = n))) ∧ Keep (fun _ => False) w w' := by
  have c0 := (hp.alloc (.cells #[str r.name, str r.text, .int .i64 r.place] 52)).cell (o := 0) rfl
  have q := (Keep.refl (fun _ => False) w).alloc (.cells #[str r.name, str r.text, .int .i64 r.place] 52)
  have hlt := hp.lt
  have hne : pb ≠ w.heap.size := by omega
  have H := Lib.hid q
  clear q hp
  by_cases hn : r.name = n
  · subst hn
    go_enter Tryd.func51, Tryd.ntmps51
    go_wp2_with fail
    go_ret
    exact ⟨ret_bool (by simp), H.out⟩
  · have hne2 : (r.name == n) = false := by simpa using hn
    have HN := Lib.hid hn
    clear hn
    go_enter Tryd.func51, Tryd.ntmps51
    go_wp2_with fail
    go_ret
    exact ⟨ret_bool (by simp [HN.out]), H.out⟩

set_option maxRecDepth 100000 in
set_option maxHeartbeats 1000000 in
theorem idx_any (L : List LN) (a : Option Addr) (cap : Nat) (n : List UInt8) (pb : Nat) (hl : L.length ≤ 1000000) (w : World) (hL : LS w a L) (hp : At w pb 9 #[str n]) :
    Calls Tryd.prog 64 #[.slice a L.length cap, .func (.func 51) #[] #[.pointer (some ⟨pb, 0, none⟩)]] w fun e w' => ∃ i : Int, e = .returned (.int .i64 i) ∧ (findL L n = decide (0 ≤ i)) ∧ Keep (fun _ => False) w w' := by
  have HL := Lib.hid (And.intro (fun (w' : World) (q : Keep (fun _ => False) w w') => hL.keep q (fun _ _ h => h)) (fun (w' : World) (q : Keep (fun _ => False) w w') => hp.keep q (fun h => h)))
  clear hL hp
  go_enter Tryd.func64, Tryd.ntmps64
  go_wp2_with fail
  go_loopg [5, 8] L.length (fun gg _ i wr => ∃ k : Nat, i = .int .i64 k ∧ k + gg = L.length ∧ findTo L n k = false ∧ Keep (fun _ => False) w wr)
  case atStart => exact ⟨0, rfl, by omega, findTo_0 L n, Keep.refl _ _⟩
  case round =>
    obtain ⟨k, rfl, hk, hE, hq⟩ := hrel
    by_cases hlt : k < L.length
    · have hlt' : (k : Int) < L.length := by omega
      obtain ⟨r, hr⟩ : ∃ r, L[k]? = some r := ⟨L[k], List.getElem?_eq_getElem hlt⟩
      obtain ⟨bl, off, rfl, -, c0, c1, c2⟩ := (HL.out.1 _ hq).get hr
      have hsu := findTo_succ (n := n) hr
      have hy := fun h => find_yes (n := n) hr h
      have H := Lib.hid (And.intro hE (And.intro hq (And.intro hsu (And.intro hy (pred_any r n pb wr (HL.out.2 _ hq))))))
      clear hE hq hsu hy hr
      obtain ⟨v, hv⟩ : ∃ v, decide (r.name = n) = v := ⟨_, rfl⟩
      have HV := Lib.hid hv
      clear hv
      go_wp2_with fail
      refine H.out.2.2.2.2.mono ?_
      rintro e w' ⟨rfl, q'⟩
      rw [HV.out]
      have Q := Lib.hid q'
      clear q'
      cases v
      · go_wp2_with fail
        go_roundg (L.length - (k + 1))
        case measure => omega
        case rel => exact ⟨k + 1, by go_num, by omega, by rw [H.out.2.2.1, H.out.1, HV.out]; rfl, H.out.2.1.trans Q.out⟩
      · go_wp2_with fail
        go_ret
        exact ⟨_, rfl, by rw [H.out.2.2.2.1 (of_decide_eq_true HV.out)]; simp, H.out.2.1.trans Q.out⟩
    · have hke : k = L.length := by omega
      subst hke
      have hf : findL L n = false := by rw [← findTo_end, hE]
      have H := Lib.hid (And.intro hf hq)
      clear hf hq hE
      go_wp2_with fail
      go_ret
      exact ⟨_, rfl, by rw [H.out.1]; rfl, H.out.2⟩

theorem contains_any (L : List LN) (a : Option Addr) (cap : Nat) (n : List UInt8) (pb : Nat) (hl : L.length ≤ 1000000) (w : World) (hL : LS w a L) (hp : At w pb 9 #[str n]) :
    Calls Tryd.prog 50 #[.slice a L.length cap, .func (.func 51) #[] #[.pointer (some ⟨pb, 0, none⟩)]] w fun e w' => e = .returned (.bool (findL L n)) ∧ Keep (fun _ => False) w w' := by
  have H := Lib.hid (idx_any L a cap n pb hl w hL hp)
  clear hL hp
  go_enter Tryd.func50, Tryd.ntmps50
  go_wp2_with fail
  refine H.out.mono ?_
  rintro e w' ⟨i, rfl, hi, q⟩
  have HI := Lib.hid (And.intro hi q)
  clear hi q
  go_wp2_with fail
  go_ret
  exact ⟨ret_bool (by rw [HI.out.1]), HI.out.2⟩

/-- May a rule of that name stand behind these ones? -/
def mayB (L : List LN) (n : List UInt8) : Bool := decide (L.length < 8) && !findL L n

set_option maxRecDepth 100000 in
set_option maxHeartbeats 1000000 in
theorem may_any (L : List LN) (a : Option Addr) (cap : Nat) (n : List UInt8) (hl : L.length ≤ 1000000) (w : World) (hL : LS w a L) :
    Calls Tryd.prog 35 #[.slice a L.length cap, str n] w fun e w' => e = .returned (.bool (mayB L n)) ∧ Keep (fun _ => False) w w' := by
  have q0 := (Keep.refl (fun _ => False) w).alloc (.cells #[str n] 9)
  have hcall := contains_any L a cap n w.heap.size hl (w.alloc (.cells #[str n] 9)) (hL.keep q0 (fun _ _ h => h)) (At.new w _ _)
  have H := Lib.hid (And.intro q0 hcall)
  clear q0 hcall hL
  obtain ⟨v, hv⟩ : ∃ v, findL L n = v := ⟨_, rfl⟩
  by_cases h8 : L.length < 8
  · have h8' : (L.length : Int) < 8 := by omega
    have hm : mayB L n = !v := by unfold mayB; rw [decide_eq_true h8, hv]; rfl
    have HM := Lib.hid (And.intro hm hv)
    clear hm hv
    go_enter Tryd.func35, Tryd.ntmps35
    go_wp2_with fail
    refine H.out.2.mono ?_
    rintro e w' ⟨rfl, q⟩
    rw [HM.out.2]
    have Q := Lib.hid q
    clear q
    go_wp2_with fail
    go_ret
    exact ⟨ret_bool HM.out.1.symm, H.out.1.trans Q.out⟩
  · have h8' : ¬ (L.length : Int) < 8 := by omega
    have hm : mayB L n = false := by unfold mayB; rw [decide_eq_false h8]; rfl
    have HM := Lib.hid hm
    clear hm hv
    go_enter Tryd.func35, Tryd.ntmps35
    go_wp2_with fail
    go_ret
    exact ⟨ret_bool HM.out.symm, H.out.1⟩
end Go.Proofs.YtmeiboaagkoadaaDoor.Ref06
/- The document's Join (layer 6). -/
namespace Go.Proofs.YtmeiboaagkoadaaDoor.Ref06
open Go.RowKit Go.Proofs.YtmeiboaagkoadaaDoor.Base

theorem str_append (a b : List UInt8) : (ByteArray.mk a.toArray ++ ByteArray.mk b.toArray) = ⟨(a ++ b).toArray⟩ := by
  apply ByteArray.ext
  simp

def textOk (r : LN) : Bool := decide (endN r.text 0 = r.text.length)
def okAt (L : List LN) (k : Nat) (r : LN) : Bool := nameL r.name && !findL (L.take k) r.name && textOk r
def okTo (L : List LN) (k : Nat) : Bool := (List.range k).all fun i => match L[i]? with | some r => okAt L i r | none => true
def fileTo (L : List LN) (k : Nat) : List UInt8 := (L.take k).flatMap fun r => r.name ++ [58] ++ r.text ++ [10]
def joinR (L : List LN) : Option (List UInt8) := if okTo L L.length = true ∧ 1 ≤ L.length ∧ L.length ≤ 8 ∧ (fileTo L L.length).length ≤ 1000 then some (fileTo L L.length) else none

theorem okTo_succ {L : List LN} {k : Nat} {r : LN} (h : L[k]? = some r) : okTo L (k + 1) = (okTo L k && okAt L k r) := by
  unfold okTo
  rw [List.range_succ, List.all_append]
  simp [h]
theorem okTo_mono {L : List LN} {k n : Nat} (h : k ≤ n) (hn : okTo L n = true) : okTo L k = true := by
  unfold okTo at *
  rw [List.all_eq_true] at *
  intro i hi
  exact hn i (List.mem_range.2 (Nat.lt_of_lt_of_le (List.mem_range.1 hi) h))
theorem join_no {L : List LN} {k : Nat} {r : LN} (h : L[k]? = some r) (hn : okAt L k r = false) : joinR L = none := by
  unfold joinR
  rw [if_neg]
  rintro ⟨e, -⟩
  have hk : k < L.length := (List.getElem?_eq_some_iff.1 h).1
  have := okTo_mono (L := L) (k := k + 1) hk e
  rw [okTo_succ h, hn, Bool.and_false] at this
  cases this
theorem fileTo_succ {L : List LN} {k : Nat} {r : LN} (h : L[k]? = some r) : fileTo L (k + 1) = fileTo L k ++ (r.name ++ [58] ++ r.text ++ [10]) := by
  unfold fileTo
  rw [List.take_add_one, h, List.flatMap_append]
  simp

theorem fileTo_len {L : List LN} : ∀ {k}, k ≤ L.length → (∀ r ∈ L, r.name.length ≤ 4000000 ∧ r.text.length ≤ 4000000) → (fileTo L k).length ≤ k * 8000002
  | 0, _, _ => by simp [fileTo]
  | k + 1, h, hb => by
    have hr : L[k]? = some L[k] := List.getElem?_eq_getElem h
    have := fileTo_len (k := k) (by omega) hb
    have := hb L[k] (List.getElem_mem h)
    rw [fileTo_succ hr]
    simp
    omega

theorem LS.take {w : World} {a : Option Addr} {L : List LN} (h : LS w a L) (k : Nat) : LS w a (L.take k) := by
  rcases h with rfl | ⟨bl, off, rfl, hb, hc⟩
  · exact .inl (by simp)
  · refine .inr ⟨bl, off, rfl, hb, fun i r hr => hc i r ?_⟩
    rw [List.getElem?_take] at hr
    split at hr
    · exact hr
    · cases hr

/-- What Join answers. -/
def IsJoin (R : Option (List UInt8)) (w : World) (e : Ending) (w' : World) : Prop := Keep (fun _ => False) w w' ∧ e = .returned (match R with | some s => .tuple #[str s, .bool true] | none => .tuple #[str [], .bool false])

end Go.Proofs.YtmeiboaagkoadaaDoor.Ref06

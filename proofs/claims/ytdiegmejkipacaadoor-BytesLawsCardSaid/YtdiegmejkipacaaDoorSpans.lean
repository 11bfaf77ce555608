/- Contracts of bytes256's spans and Text, and of the document's inside and Text. -/
import Derived.Test.YtdiegmejkipacaaDoorBd
namespace Go.Proofs.YtdiegmejkipacaaDoor.Bytes
open Go.RowKit Go.Proofs.YtdiegmejkipacaaDoor.Base Go.Proofs.YtdiegmejkipacaaDoor.Sets Go.Proofs.YtdiegmejkipacaaDoor.PL Go.Proofs.YtdiegmejkipacaaDoor.IL

/-- The ranges, as they stand in a class. -/
def spansT (L : List (Nat × Nat)) : List UInt8 := L.flatMap fun r => spanT r.1 r.2

theorem spanT_len (a b : Nat) : (spanT a b).length ≤ 9 := by
  have h1 := esc_len a
  have h2 := esc_len b
  unfold spanT
  split
  · omega
  · split
    · rw [List.length_append]; omega
    · simp only [List.length_append, List.length_cons, List.length_nil]; omega

theorem spansT_len : ∀ L, (spansT L).length ≤ 9 * L.length
  | [] => Nat.le_refl _
  | r :: L => by
    have := spansT_len L
    have := spanT_len r.1 r.2
    unfold spansT at *
    rw [List.flatMap_cons, List.length_append, List.length_cons]
    omega

theorem spansT_take {L : List (Nat × Nat)} {k : Nat} {r : Nat × Nat} (h : L[k]? = some r) : spansT (L.take (k + 1)) = spansT (L.take k) ++ spanT r.1 r.2 := by
  rw [List.take_add_one, h]
  unfold spansT
  rw [List.flatMap_append]
  simp

theorem PL.get {w : World} {a : Option Addr} {n cap : Nat} {L : List (Nat × Nat)} (h : PL w (.slice a n cap) L) {k : Nat} {r : Nat × Nat} (hr : L[k]? = some r) :
    ∃ g, a = some ⟨g, 0, none⟩ ∧ w.cell? ⟨g, k * 2, none⟩ = some (.int .u8 r.1) ∧ w.cell? ⟨g, k * 2 + 1, none⟩ = some (.int .u8 r.2) := by
  obtain ⟨a', cap', e, -, hc⟩ := h.form
  injection e with e1 _ _
  subst e1
  obtain ⟨g, -, ha, d0, d1, -⟩ := hc k r hr
  rw [show 2 * k = k * 2 from by omega] at d0
  rw [show 2 * k + 1 = k * 2 + 1 from by omega] at d1
  exact ⟨g, ha, d0, d1⟩

theorem PL.at_ {w : World} {g n cap : Nat} {L : List (Nat × Nat)} (h : PL w (.slice (some ⟨g, 0, none⟩) n cap) L) : ∃ cur, At w g 30 cur := by
  rcases h.2 with ⟨hv, _⟩ | ⟨g', cap', cur', hv, _, hg, _⟩
  · cases hv
  · injection hv with e1 _ _
    injection e1 with e1
    injection e1 with e1
    subst e1
    exact ⟨cur', hg⟩

theorem at_ne {w : World} {b b' : Nat} {t t' : TypeId} {vs vs' : Array Value} (h : At w b t vs) (h' : At w b' t' vs') (ht : t ≠ t') : b ≠ b' := fun e => by
  subst e
  unfold At at h h'
  rw [h] at h'
  injection h' with h'
  injection h' with _ h' _
  exact ht h'

theorem byteCells_append (a b : List UInt8) : Lib.byteCells (a ++ b) = Lib.byteCells a ++ Lib.byteCells b := by simp [Lib.byteCells]

theorem keep_below {a b c : World} (h : Keep (fun _ => False) a b) (k : Below a.heap.size b c) : Keep (fun _ => False) a c :=
  ⟨k.os.trans h.os, k.tape.trans h.tape, k.output.trans h.output, Nat.le_trans h.size k.size, fun i hi _ => (k.block i hi).trans (h.block i hi (fun x => x))⟩

set_option maxRecDepth 100000 in
theorem spans_any (s : ST) (hs : s.Ok) (w : World) (hT : Tab w) : Calls Tryd.prog 27 #[val s] w fun e w' => e = .returned (str (spansT (rgs s.has 256))) ∧ Keep (fun _ => False) w w' := by
  go_enter Tryd.func27, Tryd.ntmps27
  go_wp2_with fail
  have a1 := (At.new w (cells s) 24).alloc (.cells #[.pointer none, .slice none 0 0] 54)
  have a2 := Bd.fresh (w.alloc (.cells (cells s) 24)) w.heap.size (by simp)
  have q := ((Keep.refl (fun _ => False) w).alloc (.cells (cells s) 24)).alloc (.cells #[.pointer none, .slice none 0 0] 54)
  rw [show (w.alloc (.cells (cells s) 24)).heap.size = w.heap.size + 1 from by simp] at a2
  have A1 := Lib.hid (And.intro a2 q)
  obtain ⟨⟨c0, c1, c2, c3⟩, -⟩ := cells4 a1
  clear a1 a2 q
  generalize ((w.alloc (.cells (cells s) 24)).alloc (.cells #[.pointer none, .slice none 0 0] 54)) = W at *
  go_wp2_with fail
  refine (ranges_any s hs W (hT.keep A1.out.2)).mono ?_
  rintro e w1 ⟨lv, rfl, hp, hb, q1⟩
  have hbd := A1.out.1.keep q1 (fun _ h => h)
  have hq := A1.out.2.trans q1
  have hl := rgs_le s.has 256
  have hord := (rgs_ok s.has 256).ord
  obtain ⟨L, hL⟩ : ∃ L, L = rgs s.has 256 := ⟨_, rfl⟩
  rw [← hL] at hp hl hord
  have HL := Lib.hid hL
  clear hL
  have hown : ∀ g, lv.ownBlock = some g → w.heap.size ≤ g := fun g hg => by have := hb g hg; have := A1.out.2.size; omega
  obtain ⟨a, cap, rfl, -, hc⟩ := hp.form
  have H := Lib.hid (And.intro hp (And.intro hbd (And.intro hq (And.intro hord hown))))
  clear hp hb q1 hbd hq hc hord hown c0 c1 c2 c3 A1
  go_wp2_with fail
  go_loopg [9] L.length (fun gg i wr => ∃ (k : Nat) (bv : Value), i = .int .i64 k ∧ k + gg = L.length ∧ PL wr (.slice a L.length cap) L ∧ Bd wr w.heap.size (w.heap.size + 1) bv (Lib.byteCells (spansT (L.take k))) ∧ Keep (fun _ => False) w wr)
  case atStart => exact ⟨0, _, rfl, by omega, H.out.1, H.out.2.1, H.out.2.2.1⟩
  case round =>
    obtain ⟨k, bv, rfl, hk, hp, hbd, hq⟩ := hrel
    by_cases hlt : k < L.length
    · obtain ⟨r, hr⟩ : ∃ r, L[k]? = some r := ⟨L[k], List.getElem?_eq_getElem hlt⟩
      obtain ⟨g, rfl, d0, d1⟩ := PL.get hp hr
      have hrr := H.out.2.2.2.1 r (List.mem_of_getElem? hr)
      have i0 : (0 : Int) ≤ (k : Int) := by omega
      have i1 : (k : Int) < (L.length : Int) := by omega
      have HR := Lib.hid (And.intro hk (And.intro hp (And.intro hbd (And.intro hq hr))))
      clear hk hp hbd hq hr
      go_wp2_with fail
      have qa := (Keep.refl (fun _ => False) wr).alloc (.cells #[.int .u8 r.1, .int .u8 r.2] 30)
      generalize (wr.alloc (.cells #[.int .u8 r.1, .int .u8 r.2] 30)) = w2 at *
      refine (span_any r.1 r.2 hrr.1 hrr.2 w2).mono ?_
      rintro e w3 ⟨rfl, q3⟩
      obtain ⟨hk, hp, hbd, hq, hr⟩ := HR.out
      have q23 := qa.trans q3
      have hbd3 := hbd.keep q23 (fun _ h => h)
      have hp3 := hp.keep q23 (fun _ _ h => h)
      have hq3 := hq.trans q23
      have hlen : (Lib.byteCells (spansT (L.take k))).length + (spanT r.1 r.2).length ≤ 140737488355328 := by
        have h1 := spansT_len (L.take k)
        have h2 := spanT_len r.1 r.2
        rw [Lib.byteCells_length]
        have h3 : (L.take k).length ≤ 256 := by rw [List.length_take]; omega
        omega
      have HS := Lib.hid (And.intro hk (And.intro hp3 (And.intro hq3 (And.intro hr (And.intro hbd3 hlen)))))
      clear hk hp hbd hq hr q23 hbd3 hp3 hq3 hlen qa q3 HR d0 d1
      go_wp2_with fail
      refine (write_bd w.heap.size (w.heap.size + 1) bv _ _ w3 HS.out.2.2.2.2.1 HS.out.2.2.2.2.2 HS.out.2.2.1.size).mono ?_
      rintro e w4 ⟨rfl, bv', hbd4, q4⟩
      have HW := Lib.hid (And.intro hbd4 q4)
      clear hbd4 q4
      go_wp2_with fail
      go_roundg (L.length - (k + 1))
      case measure => have := HS.out.1; omega
      case rel =>
        obtain ⟨hk, hp3, hq3, hr, hbd3, -⟩ := HS.out
        obtain ⟨hbd4, q4⟩ := HW.out
        obtain ⟨cur, hg⟩ := PL.at_ hp3
        obtain ⟨p, _, ha⟩ := hbd3.cells
        have hne : g ≠ w.heap.size + 1 := at_ne hg ha (by decide)
        have hne2 : bv.ownBlock ≠ some g := own_ne hbd3.own hg (by decide)
        refine ⟨k + 1, bv', by go_num, by omega, hp3.keep q4 (fun g' hg' => ?_), ?_, hq3.next q4 (fun i hi hl => ?_)⟩
        · injection hg' with hg'
          subst hg'
          rintro (h | h)
          · exact hne h
          · exact hne2 h
        · rw [spansT_take hr, byteCells_append]
          exact hbd4
        · rcases hi with h | h
          · omega
          · have := own_base hbd3.own h
            omega
    · have hkl : k = L.length := by omega
      subst hkl
      rw [List.take_length] at hbd
      have HR := Lib.hid (And.intro hbd hq)
      clear hp hbd hq hk
      go_wp2_with fail
      refine (string_bd w.heap.size (w.heap.size + 1) bv _ wr HR.out.1 HR.out.2.size).mono ?_
      rintro e w2 ⟨rfl, q2⟩
      have HB := Lib.hid (keep_below HR.out.2 q2)
      clear q2
      go_wp2
      go_ret
      exact ⟨ret_str (by rw [HL.out]), HB.out⟩
end Go.Proofs.YtdiegmejkipacaaDoor.Bytes

/- A strings.Builder of the call's own, beside other blocks: what WriteString and String do to it and what they leave alone. -/
import Derived.Test.YtmeiboaagkoadaaGreatDoorKK17
import Derived.Test.YtmeiboaagkoadaaGreatDoorKK30
namespace Go.Proofs.YtmeiboaagkoadaaGreatDoor.Bytes
open Go.RowKit Go.Proofs.YtmeiboaagkoadaaGreatDoor.Base Go.Proofs.YtmeiboaagkoadaaGreatDoor.Sets Go.Proofs.YtmeiboaagkoadaaGreatDoor.Builder

/-- The builder in block b: its buffer is v, its bytes bs; both from B on. -/
structure Bd (w : World) (B b : Nat) (v : Value) (bs : List Value) : Prop where
  base : B ≤ b
  cells : ∃ p, (p = .pointer none ∨ p = .pointer (some ⟨b, 0, none⟩)) ∧ At w b 67 #[p, v]
  own : w.ownsRow B 5 1 v bs.length bs

theorem own_keep {S : Nat → Prop} {w w' : World} {B : Nat} {v : Value} {n : Nat} {xs : List Value} (h : w.ownsRow B 5 1 v n xs) (q : Keep S w w') (hn : ∀ g, v.ownBlock = some g → ¬ S g) : w'.ownsRow B 5 1 v n xs := by
  refine ⟨h.1, ?_⟩
  rcases h.2 with h | ⟨g, cap, cur, rfl, hb, hg, r⟩
  · exact .inl h
  · refine .inr ⟨g, cap, cur, rfl, hb, ?_, r⟩
    have : At w g 5 cur := hg
    exact this.keep q (hn g rfl)

theorem own_ne {w : World} {B : Nat} {v : Value} {n : Nat} {xs : List Value} (h : w.ownsRow B 5 1 v n xs) {b : Nat} {t : TypeId} {cs : Array Value} (ha : At w b t cs) (ht : t ≠ 5) : v.ownBlock ≠ some b :=
  Lib.ownBlock_ne h ha ht

theorem own_base {w : World} {B : Nat} {v : Value} {n : Nat} {xs : List Value} (h : w.ownsRow B 5 1 v n xs) {g : Nat} (hg : v.ownBlock = some g) : B ≤ g := by
  rcases h.2 with ⟨rfl, _⟩ | ⟨g', cap, cur, rfl, hb, _⟩
  · cases hg
  · cases hg
    exact hb

theorem Bd.keep {S : Nat → Prop} {w w' : World} {B b : Nat} {v : Value} {bs : List Value} (h : Bd w B b v bs) (q : Keep S w w') (hS : ∀ k, ¬ S k) : Bd w' B b v bs := by
  obtain ⟨p, hp, ha⟩ := h.cells
  exact ⟨h.base, ⟨p, hp, ha.keep q (hS b)⟩, own_keep h.own q (fun g _ => hS g)⟩

theorem Bd.fresh (w : World) (B : Nat) (hB : B ≤ w.heap.size) : Bd (w.alloc (.cells #[.pointer none, .slice none 0 0] 67)) B w.heap.size (.slice none 0 0) [] :=
  ⟨hB, ⟨_, .inl rfl, At.new w _ _⟩, ⟨rfl, .inl ⟨rfl, rfl⟩⟩⟩

/-- What a WriteString leaves. -/
def Wrote (w : World) (B b : Nat) (v : Value) (bs : List Value) (n : Nat) (e : Ending) (w' : World) : Prop :=
  e = .returned (.tuple #[.int .i64 n, .nilIface]) ∧ ∃ v', Bd w' B b v' bs ∧ Keep (fun k => k = b ∨ v.ownBlock = some k) w w'

theorem check_bd (B b : Nat) (v : Value) (bs : List Value) (w : World) (h : Bd w B b v bs) :
    Calls Tryz.prog 51 #[.pointer (some ⟨b, 0, none⟩)] w fun e w' => e = .returned (.tuple #[]) ∧ At w' b 67 #[.pointer (some ⟨b, 0, none⟩), v] ∧ w'.ownsRow B 5 1 v bs.length bs ∧ Keep (fun k => k = b) w w' := by
  obtain ⟨p, hp, ha⟩ := h.cells
  rcases hp with rfl | rfl
  · have hsh : w.shape? b = some (67, 2) := by
      have : w.heap[b]? = some (.cells #[.pointer none, v] 67 (0, 0)) := ha
      simp [World.shape?, this]
    refine (check_fresh b w (ha.cell rfl) hsh (ha.frozen 0)).mono ?_
    rintro e w' ⟨rfl, rfl⟩
    have q := (Keep.refl (fun k => k = b) w).setCell (p := ⟨b, 0, none⟩) (fun _ => rfl) (.pointer (some ⟨b, 0, none⟩))
    exact ⟨rfl, ha.set 0 _, own_keep h.own q (fun g hg hk => own_ne h.own ha (by decide) (by rw [hg, hk])), q⟩
  · refine (check_used b w (ha.cell rfl)).mono ?_
    rintro e w' ⟨rfl, rfl⟩
    exact ⟨rfl, ha, h.own, Keep.refl _ _⟩

set_option maxHeartbeats 2000000 in
set_option maxRecDepth 100000 in
theorem write_bd (B b : Nat) (v : Value) (bs : List Value) (l : List UInt8) (w : World) (h : Bd w B b v bs) (hlen : bs.length + l.length ≤ 140737488355328) (hBw : B ≤ w.heap.size) :
    Calls Tryz.prog 28 #[.pointer (some ⟨b, 0, none⟩), str l] w (Wrote w B b v (bs ++ Lib.byteCells l) l.length) := by
  obtain ⟨i0, hi, hz0, hz1, hz2⟩ := info_parts infoByte
  have hsz : (ByteArray.mk l.toArray).size = l.length := by simp [ByteArray.size]
  have hB := h.base
  go_enter Tryz.func28, Tryz.ntmps28
  go_wp2_with fail
  refine (check_bd B b v bs _ h).mono ?_
  rintro e w1 ⟨rfl, ha, hown, q1⟩
  have HQ := Lib.hid (And.intro ha q1)
  have c0 : w1.cell? ⟨b, 0, none⟩ = some (.pointer (some ⟨b, 0, none⟩)) := ha.cell rfl
  have c1 : w1.cell? ⟨b, 1, none⟩ = some v := ha.cell rfl
  clear ha
  go_wp2_with (at_builtin; refine Lib.wpList_append_own_string _ rfl _ _ 65 9 rfl B 5 i0 Tryz.underlying65 Tryz.underlying9 hi hz0 hz1 hz2 _ _ _ rfl hown ⟨l.toArray⟩ rfl ?c3 ?c4 ?c5 ?_)
  case c3 => rw [hsz]; unfold maxLen; omega
  case c4 => rw [hsz]; omega
  case c5 => have := q1.size; omega
  intro v' w2 hown' hgrow _
  have hne := own_ne hown HQ.out.1 (by decide)
  have q2 : Keep (fun k => v.ownBlock = some k) w1 w2 := ⟨hgrow.os, hgrow.tape, hgrow.output, hgrow.size, fun k hk hn => hgrow.block k hk (fun e => hn e.symm)⟩
  have ha2 := HQ.out.1.keep q2 hne
  have d0 : w2.cell? ⟨b, 0, none⟩ = some (.pointer (some ⟨b, 0, none⟩)) := ha2.cell rfl
  have d1 : w2.cell? ⟨b, 1, none⟩ = some v := ha2.cell rfl
  have f1 : w2.frozen? ⟨b, 1, none⟩ = false := ha2.frozen 1
  have HR := Lib.hid (And.intro hown' (And.intro q2 (And.intro ha2 hsz)))
  clear hown hown' hgrow hne q2 ha2 q1 hsz
  obtain ⟨ao, n', cap, rfl⟩ : ∃ ao n' cap, v' = .slice ao n' cap := by
    rcases HR.out.1.2 with ⟨hv, _⟩ | ⟨g, cap, cur, hv, _⟩
    · exact ⟨_, _, _, hv⟩
    · exact ⟨_, _, _, hv⟩
  go_wp2
  go_ret2
  obtain ⟨hown', q2, ha2, hsz⟩ := HR.out
  have hne' := own_ne hown' ha2 (by decide)
  have q3 := (Keep.refl (fun k => k = b) w2).setCell (p := ⟨b, 1, none⟩) (fun _ => rfl) (.slice ao n' cap)
  refine ⟨?_, .slice ao n' cap, ⟨hB, ⟨_, .inr rfl, ha2.set 1 _⟩, ?_⟩, ?_⟩
  · first | rfl | (rw [hsz]; rfl) | (simp [hsz])
  · try rw [hsz] at hown'
    have e : (bs ++ Lib.byteCells l).length = bs.length + l.length := by rw [List.length_append, Lib.byteCells_length]
    rw [e]
    exact own_keep hown' q3 (fun g hg hk => hne' (by rw [hg, hk]))
  · exact (HQ.out.2.mono (fun i hi => .inl hi)).trans ((q2.mono (fun i hi => .inr hi)).trans (q3.mono (fun i hi => .inl hi)))

/-- String: the text that was written. -/
theorem string_bd (B b : Nat) (v : Value) (l : List UInt8) (w : World) (h : Bd w B b v (Lib.byteCells l)) (hBw : B ≤ w.heap.size) :
    Calls Tryz.prog 33 #[.pointer (some ⟨b, 0, none⟩)] w fun e w' => e = .returned (str l) ∧ Below B w w' := by
  obtain ⟨p, hp, ha⟩ := h.cells
  have hne := own_ne h.own ha (by decide)
  refine Lay.Builder_String_any B b l w ?_ hBw
  rcases hp with rfl | rfl
  · exact .inl ⟨h.base, v, ha, h.own, hne⟩
  · exact .inr ⟨h.base, v, ha, h.own, hne⟩

end Go.Proofs.YtmeiboaagkoadaaGreatDoor.Bytes
/- Contracts of bytes256's spans and Text, and of the document's inside and Text. -/
namespace Go.Proofs.YtmeiboaagkoadaaGreatDoor.Bytes
open Go.RowKit Go.Proofs.YtmeiboaagkoadaaGreatDoor.Base Go.Proofs.YtmeiboaagkoadaaGreatDoor.Sets Go.Proofs.YtmeiboaagkoadaaGreatDoor.PL Go.Proofs.YtmeiboaagkoadaaGreatDoor.IL

/-- The ranges, as they stand in a class. -/
def spansT (L : List (Nat × Nat)) : List UInt8 := L.flatMap fun r => spanT r.1 r.2

theorem spanT_len (a b : Nat) : (spanT a b).length ≤ 9 := by
  have h1 := esc_len a
  have h2 := esc_len b
  unfold spanT
  split
  · omega
  · split
    · rw [List.length_append]; omega
    · simp only [List.length_append, List.length_cons, List.length_nil]; omega

theorem spansT_len : ∀ L, (spansT L).length ≤ 9 * L.length
  | [] => Nat.le_refl _
  | r :: L => by
    have := spansT_len L
    have := spanT_len r.1 r.2
    unfold spansT at *
    rw [List.flatMap_cons, List.length_append, List.length_cons]
    omega

theorem spansT_take {L : List (Nat × Nat)} {k : Nat} {r : Nat × Nat} (h : L[k]? = some r) : spansT (L.take (k + 1)) = spansT (L.take k) ++ spanT r.1 r.2 := by
  rw [List.take_add_one, h]
  unfold spansT
  rw [List.flatMap_append]
  simp

theorem PL.get {w : World} {a : Option Addr} {n cap : Nat} {L : List (Nat × Nat)} (h : PL w (.slice a n cap) L) {k : Nat} {r : Nat × Nat} (hr : L[k]? = some r) :
    ∃ g, a = some ⟨g, 0, none⟩ ∧ w.cell? ⟨g, k * 2, none⟩ = some (.int .u8 r.1) ∧ w.cell? ⟨g, k * 2 + 1, none⟩ = some (.int .u8 r.2) := by
  obtain ⟨a', cap', e, -, hc⟩ := h.form
  injection e with e1 _ _
  subst e1
  obtain ⟨g, -, ha, d0, d1, -⟩ := hc k r hr
  rw [show 2 * k = k * 2 from by omega] at d0
  rw [show 2 * k + 1 = k * 2 + 1 from by omega] at d1
  exact ⟨g, ha, d0, d1⟩

theorem PL.at_ {w : World} {g n cap : Nat} {L : List (Nat × Nat)} (h : PL w (.slice (some ⟨g, 0, none⟩) n cap) L) : ∃ cur, At w g 98 cur := by
  rcases h.2 with ⟨hv, _⟩ | ⟨g', cap', cur', hv, _, hg, _⟩
  · cases hv
  · injection hv with e1 _ _
    injection e1 with e1
    injection e1 with e1
    subst e1
    exact ⟨cur', hg⟩

theorem at_ne {w : World} {b b' : Nat} {t t' : TypeId} {vs vs' : Array Value} (h : At w b t vs) (h' : At w b' t' vs') (ht : t ≠ t') : b ≠ b' := fun e => by
  subst e
  unfold At at h h'
  rw [h] at h'
  injection h' with h'
  injection h' with _ h' _
  exact ht h'

theorem byteCells_append (a b : List UInt8) : Lib.byteCells (a ++ b) = Lib.byteCells a ++ Lib.byteCells b := by simp [Lib.byteCells]

theorem keep_below {a b c : World} (h : Keep (fun _ => False) a b) (k : Below a.heap.size b c) : Keep (fun _ => False) a c :=
  ⟨k.os.trans h.os, k.tape.trans h.tape, k.output.trans h.output, Nat.le_trans h.size k.size, fun i hi _ => (k.block i hi).trans (h.block i hi (fun x => x))⟩

set_option maxRecDepth 100000 in
theorem spans_any (s : ST) (hs : s.Ok) (w : World) (hT : Tab w) : Calls Tryz.prog 55 #[val s] w fun e w' => e = .returned (str (spansT (rgs s.has 256))) ∧ Keep (fun _ => False) w w' := by
  go_enter Tryz.func55, Tryz.ntmps55
  go_wp2_with fail
  have a1 := (At.new w (cells s) 24).alloc (.cells #[.pointer none, .slice none 0 0] 67)
  have a2 := Bd.fresh (w.alloc (.cells (cells s) 24)) w.heap.size (by simp)
  have q := ((Keep.refl (fun _ => False) w).alloc (.cells (cells s) 24)).alloc (.cells #[.pointer none, .slice none 0 0] 67)
  rw [show (w.alloc (.cells (cells s) 24)).heap.size = w.heap.size + 1 from by simp] at a2
  have A1 := Lib.hid (And.intro a2 q)
  obtain ⟨⟨c0, c1, c2, c3⟩, -⟩ := cells4 a1
  clear a1 a2 q
  generalize ((w.alloc (.cells (cells s) 24)).alloc (.cells #[.pointer none, .slice none 0 0] 67)) = W at *
  go_wp2_with fail
  refine (ranges_any s hs W (hT.keep A1.out.2)).mono ?_
  rintro e w1 ⟨lv, rfl, hp, hb, q1⟩
  have hbd := A1.out.1.keep q1 (fun _ h => h)
  have hq := A1.out.2.trans q1
  have hl := rgs_le s.has 256
  have hord := (rgs_ok s.has 256).ord
  obtain ⟨L, hL⟩ : ∃ L, L = rgs s.has 256 := ⟨_, rfl⟩
  rw [← hL] at hp hl hord
  have HL := Lib.hid hL
  clear hL
  have hown : ∀ g, lv.ownBlock = some g → w.heap.size ≤ g := fun g hg => by have := hb g hg; have := A1.out.2.size; omega
  obtain ⟨a, cap, rfl, -, hc⟩ := hp.form
  have H := Lib.hid (And.intro hp (And.intro hbd (And.intro hq (And.intro hord hown))))
  clear hp hb q1 hbd hq hc hord hown c0 c1 c2 c3 A1
  go_wp2_with fail
  go_loopg [9] L.length (fun gg i wr => ∃ (k : Nat) (bv : Value), i = .int .i64 k ∧ k + gg = L.length ∧ PL wr (.slice a L.length cap) L ∧ Bd wr w.heap.size (w.heap.size + 1) bv (Lib.byteCells (spansT (L.take k))) ∧ Keep (fun _ => False) w wr)
  case atStart => exact ⟨0, _, rfl, by omega, H.out.1, H.out.2.1, H.out.2.2.1⟩
  case round =>
    obtain ⟨k, bv, rfl, hk, hp, hbd, hq⟩ := hrel
    by_cases hlt : k < L.length
    · obtain ⟨r, hr⟩ : ∃ r, L[k]? = some r := ⟨L[k], List.getElem?_eq_getElem hlt⟩
      obtain ⟨g, rfl, d0, d1⟩ := PL.get hp hr
      have hrr := H.out.2.2.2.1 r (List.mem_of_getElem? hr)
      have i0 : (0 : Int) ≤ (k : Int) := by omega
      have i1 : (k : Int) < (L.length : Int) := by omega
      have HR := Lib.hid (And.intro hk (And.intro hp (And.intro hbd (And.intro hq hr))))
      clear hk hp hbd hq hr
      go_wp2_with fail
      have qa := (Keep.refl (fun _ => False) wr).alloc (.cells #[.int .u8 r.1, .int .u8 r.2] 98)
      generalize (wr.alloc (.cells #[.int .u8 r.1, .int .u8 r.2] 98)) = w2 at *
      refine (span_any r.1 r.2 hrr.1 hrr.2 w2).mono ?_
      rintro e w3 ⟨rfl, q3⟩
      obtain ⟨hk, hp, hbd, hq, hr⟩ := HR.out
      have q23 := qa.trans q3
      have hbd3 := hbd.keep q23 (fun _ h => h)
      have hp3 := hp.keep q23 (fun _ _ h => h)
      have hq3 := hq.trans q23
      have hlen : (Lib.byteCells (spansT (L.take k))).length + (spanT r.1 r.2).length ≤ 140737488355328 := by
        have h1 := spansT_len (L.take k)
        have h2 := spanT_len r.1 r.2
        rw [Lib.byteCells_length]
        have h3 : (L.take k).length ≤ 256 := by rw [List.length_take]; omega
        omega
      have HS := Lib.hid (And.intro hk (And.intro hp3 (And.intro hq3 (And.intro hr (And.intro hbd3 hlen)))))
      clear hk hp hbd hq hr q23 hbd3 hp3 hq3 hlen qa q3 HR d0 d1
      go_wp2_with fail
      refine (write_bd w.heap.size (w.heap.size + 1) bv _ _ w3 HS.out.2.2.2.2.1 HS.out.2.2.2.2.2 HS.out.2.2.1.size).mono ?_
      rintro e w4 ⟨rfl, bv', hbd4, q4⟩
      have HW := Lib.hid (And.intro hbd4 q4)
      clear hbd4 q4
      go_wp2_with fail
      go_roundg (L.length - (k + 1))
      case measure => have := HS.out.1; omega
      case rel =>
        obtain ⟨hk, hp3, hq3, hr, hbd3, -⟩ := HS.out
        obtain ⟨hbd4, q4⟩ := HW.out
        obtain ⟨cur, hg⟩ := PL.at_ hp3
        obtain ⟨p, _, ha⟩ := hbd3.cells
        have hne : g ≠ w.heap.size + 1 := at_ne hg ha (by decide)
        have hne2 : bv.ownBlock ≠ some g := own_ne hbd3.own hg (by decide)
        refine ⟨k + 1, bv', by go_num, by omega, hp3.keep q4 (fun g' hg' => ?_), ?_, hq3.next q4 (fun i hi hl => ?_)⟩
        · injection hg' with hg'
          subst hg'
          rintro (h | h)
          · exact hne h
          · exact hne2 h
        · rw [spansT_take hr, byteCells_append]
          exact hbd4
        · rcases hi with h | h
          · omega
          · have := own_base hbd3.own h
            omega
    · have hkl : k = L.length := by omega
      subst hkl
      rw [List.take_length] at hbd
      have HR := Lib.hid (And.intro hbd hq)
      clear hp hbd hq hk
      go_wp2_with fail
      refine (string_bd w.heap.size (w.heap.size + 1) bv _ wr HR.out.1 HR.out.2.size).mono ?_
      rintro e w2 ⟨rfl, q2⟩
      have HB := Lib.hid (keep_below HR.out.2 q2)
      clear q2
      go_wp2
      go_ret
      exact ⟨ret_str (by rw [HL.out]), HB.out⟩
end Go.Proofs.YtmeiboaagkoadaaGreatDoor.Bytes
/- Contracts of the document's inside and Text, and of bytes256's Text. -/
namespace Go.Proofs.YtmeiboaagkoadaaGreatDoor.Bytes
open Go.RowKit Go.Proofs.YtmeiboaagkoadaaGreatDoor.Base Go.Proofs.YtmeiboaagkoadaaGreatDoor.Sets Go.Proofs.YtmeiboaagkoadaaGreatDoor.PL Go.Proofs.YtmeiboaagkoadaaGreatDoor.IL

theorem str_eq {a b : ByteArray} (h : a = b) : Value.string a = Value.string b := by rw [h]

set_option maxRecDepth 100000 in
theorem inside_any (s : ST) (w : World) : Calls Tryz.prog 40 #[val s] w fun e w' => e = .returned (str (spansT (rgs s.has 256))) ∧ Keep (fun _ => False) w w' := by
  go_enter Tryz.func40, Tryz.ntmps40
  go_wp2_with fail
  have a1 := At.new w (cells s) 24
  have q := (Keep.refl (fun _ => False) w).alloc (.cells (cells s) 24)
  have A1 := Lib.hid q
  obtain ⟨⟨c0, c1, c2, c3⟩, -⟩ := cells4 a1
  clear a1 q
  generalize (w.alloc (.cells (cells s) 24)) = W at *
  go_wp2_with fail
  refine (rranges_any s W).mono ?_
  rintro e w1 ⟨lv, rfl, hp, -, q1⟩
  have hq := A1.out.trans q1
  have hl := rgs_le s.has 256
  have hord := (rgs_ok s.has 256).ord
  obtain ⟨L, hL⟩ : ∃ L, L = rgs s.has 256 := ⟨_, rfl⟩
  rw [← hL] at hp hl hord
  have HL := Lib.hid hL
  clear hL
  obtain ⟨a, cap, rfl, -, -⟩ := hp.form
  have H := Lib.hid (And.intro hp (And.intro hq hord))
  clear hp q1 hq hord c0 c1 c2 c3 A1
  go_wp2_with fail
  go_loopg [3, 5] L.length (fun gg t i wr => ∃ k : Nat, i = .int .i64 k ∧ k + gg = L.length ∧ t = str (spansT (L.take k)) ∧ PL wr (.slice a L.length cap) L ∧ Keep (fun _ => False) w wr)
  case atStart => exact ⟨0, rfl, by omega, rfl, H.out.1, H.out.2.1⟩
  case round =>
    obtain ⟨k, rfl, hk, rfl, hp, hq⟩ := hrel
    by_cases hlt : k < L.length
    · obtain ⟨r, hr⟩ : ∃ r, L[k]? = some r := ⟨L[k], List.getElem?_eq_getElem hlt⟩
      obtain ⟨g, rfl, d0, d1⟩ := PL.get hp hr
      obtain ⟨hr1, hr2⟩ := H.out.2.2 r (List.mem_of_getElem? hr)
      have i0 : (0 : Int) ≤ (k : Int) := by omega
      have i1 : (k : Int) < (L.length : Int) := by omega
      have ht := spansT_take hr
      have hlen : (spansT (L.take k)).length ≤ 2304 := by
        have h1 := spansT_len (L.take k)
        have h3 : (L.take k).length ≤ 256 := by rw [List.length_take]; omega
        omega
      obtain ⟨x, y⟩ := r
      have HR := Lib.hid (And.intro hk (And.intro hp (And.intro hq ht)))
      clear hk hp hq hr ht
      dsimp only at d0 d1 hr1 hr2
      go_wp2_with fail
      go_quiet (fail)
      go_wp2_with fail
      have qd := (Keep.refl (fun _ => False) wr).drewN nq
      generalize wr.drewN nq = wd at *
      refine (resc_any x (by omega) wd).mono ?_
      rintro e w2 ⟨rfl, q2⟩
      have hq2 := (HR.out.2.2.1.trans qd).trans q2
      have hp2 := HR.out.2.1.keep (qd.trans q2) (fun _ _ h => h)
      have H2 := Lib.hid (And.intro HR.out.1 (And.intro hq2 (And.intro hp2 HR.out.2.2.2)))
      clear hq2 hp2 HR qd q2 d0 d1
      generalize spansT (L.take k) = T at *
      have l1 := esc_len x
      have l2 := esc_len y
      have n0 : ¬ 9223372036854775807 < T.length + (esc x).length := by omega
      by_cases h0 : y = x
      · have g0 : ¬ ((x : Int) + 1 < (y : Int)) := by omega
        have g1 : ¬ ((x : Int) < (y : Int)) := by omega
        have he : spanT x y = esc x := by rw [spanT, if_pos h0]
        have HE := Lib.hid he
        clear he h0
        go_wp2_with fail
        go_roundg (L.length - (k + 1))
        case measure => have := H2.out.1; omega
        case rel =>
          obtain ⟨hk, hq, hp, ht⟩ := H2.out
          refine ⟨k + 1, by go_num, by omega, ?_, hp, hq⟩
          rw [ht, HE.out]
          exact str_eq (str_append _ _)
      · have g1 : (x : Int) < (y : Int) := by omega
        by_cases h1 : y = x + 1
        · have g0 : ¬ ((x : Int) + 1 < (y : Int)) := by omega
          have he : spanT x y = esc x ++ esc y := by rw [spanT, if_neg h0, if_pos h1]
          have HE := Lib.hid he
          clear he h0 h1
          go_wp2_with fail
          refine (resc_any y (by omega) w2).mono ?_
          rintro e w3 ⟨rfl, q3⟩
          have H3 := Lib.hid q3
          clear q3
          have n1 : ¬ 9223372036854775807 < T.length + (esc x).length + (esc y).length := by omega
          go_wp2_with fail
          go_roundg (L.length - (k + 1))
          case measure => have := H2.out.1; omega
          case rel =>
            obtain ⟨hk, hq, hp, ht⟩ := H2.out
            refine ⟨k + 1, by go_num, by omega, ?_, hp.keep H3.out (fun _ _ h => h), hq.trans H3.out⟩
            rw [ht, HE.out]
            exact str_eq (ByteArray.ext (by simp))
        · have g0 : (x : Int) + 1 < (y : Int) := by omega
          have he : spanT x y = esc x ++ [45] ++ esc y := by rw [spanT, if_neg h0, if_neg h1]
          have HE := Lib.hid he
          clear he h0 h1
          have n2 : ¬ 9223372036854775807 < T.length + (esc x).length + 1 := by omega
          go_wp2_with fail
          refine (resc_any y (by omega) w2).mono ?_
          rintro e w3 ⟨rfl, q3⟩
          have H3 := Lib.hid q3
          clear q3
          have n1 : ¬ 9223372036854775807 < T.length + (esc x).length + 1 + (esc y).length := by omega
          go_wp2_with fail
          go_roundg (L.length - (k + 1))
          case measure => have := H2.out.1; omega
          case rel =>
            obtain ⟨hk, hq, hp, ht⟩ := H2.out
            refine ⟨k + 1, by go_num, by omega, ?_, hp.keep H3.out (fun _ _ h => h), hq.trans H3.out⟩
            rw [ht, HE.out]
            exact str_eq (ByteArray.ext (by simp))
    · have hkl : k = L.length := by omega
      subst hkl
      have ht : spansT (L.take L.length) = spansT (rgs s.has 256) := by rw [List.take_length, HL.out]
      have HR := Lib.hid (And.intro hq ht)
      clear hp hq hk ht
      go_wp2
      go_ret
      exact ⟨ret_str (by rw [HR.out.2]), HR.out.1⟩

/-- A set, as a class. -/
def textT (s : ST) : List UInt8 :=
  if s.count = 256 then [46] else if s.count = 1 then esc (nxt s.has 0) else if s.count ≤ 128 then 91 :: (spansT (rgs s.has 256) ++ [93]) else 91 :: 94 :: (spansT (rgs s.not.has 256) ++ [93])

set_option maxRecDepth 100000 in
theorem text_any (s : ST) (hs : s.Ok) (w : World) (hT : Tab w) : Calls Tryz.prog 29 #[val s] w fun e w' => e = .returned (str (textT s)) ∧ Keep (fun _ => False) w w' := by
  go_enter Tryz.func29, Tryz.ntmps29
  go_wp2_with fail
  have a1 := At.new w (cells s) 24
  have q1 := (Keep.refl (fun _ => False) w).alloc (.cells (cells s) 24)
  have A1 := Lib.hid (And.intro a1 q1)
  clear a1 q1
  generalize (w.alloc (.cells (cells s) 24)) = W at *
  obtain ⟨⟨c0, c1, c2, c3⟩, -⟩ := cells4 A1.out.1
  go_wp2_with fail
  refine (count_any s hs W).mono ?_
  rintro e w1 ⟨rfl, q1⟩
  have hq := A1.out.2.trans q1
  have ha := A1.out.1.keep q1 (fun h => h)
  clear c0 c1 c2 c3 A1 q1
  obtain ⟨⟨c0, c1, c2, c3⟩, -⟩ := cells4 ha
  have H := Lib.hid (And.intro hq (hT.keep hq))
  clear hq ha hT
  have hnl := nxt_lt_iff s.has
  have hcl := s.count_le
  have hcc : s.count = cnt s.has 256 := rfl
  by_cases h256 : s.count = 256
  · have he : str (textT s) = str [46] := by rw [textT, if_pos h256]
    have HE := Lib.hid he
    have hb : ((s.count : Int) == 256) = true := by rw [h256]; rfl
    clear he h256 hnl hcc
    go_wp2
    go_ret
    exact ⟨by rw [HE.out]; rfl, H.out.1⟩
  · have hb : ((s.count : Int) == 256) = false := by simp; omega
    by_cases h1 : s.count = 1
    · have he : str (textT s) = str (esc (nxt s.has 0)) := by rw [textT, if_neg h256, if_pos h1]
      have HE := Lib.hid he
      have hb1 : ((s.count : Int) == 1) = true := by rw [h1]; rfl
      have hn : nxt s.has 0 < 256 := hnl.2 (by omega)
      have hlo : leastB s.has = (nxt s.has 0 : Int) := by rw [leastB, if_pos hn]
      clear he h256 h1 hnl hcc
      go_wp2_with fail
      have hle := least_any s hs w1 H.out.2
      rw [hlo] at hle
      refine hle.mono ?_
      rintro e w2 ⟨rfl, q2⟩
      have hea := esc_any (nxt s.has 0) hn w2
      have HQ := Lib.hid (H.out.1.trans q2)
      clear hle hlo q2
      generalize nxt s.has 0 = m at *
      have hm : (m : Int) < 256 := by omega
      go_wp2_with fail
      refine hea.mono ?_
      rintro e w3 ⟨rfl, q3⟩
      have HQ3 := Lib.hid (HQ.out.trans q3)
      clear q3 hea
      go_wp2
      go_ret
      exact ⟨by rw [HE.out]; rfl, HQ3.out⟩
    · have hb1 : ((s.count : Int) == 1) = false := by simp; omega
      by_cases h128 : s.count ≤ 128
      · have he : str (textT s) = str (91 :: (spansT (rgs s.has 256) ++ [93])) := by rw [textT, if_neg h256, if_neg h1, if_pos h128]
        have HE := Lib.hid he
        have hb2 : ((s.count : Int) ≤ 128) := by omega
        have hlen := spansT_len (rgs s.has 256)
        have hrl := rgs_le s.has 256
        clear he h256 h1 hnl hcc h128
        go_wp2_with fail
        refine (spans_any s hs w1 H.out.2).mono ?_
        rintro e w2 ⟨rfl, q2⟩
        have HQ := Lib.hid (H.out.1.trans q2)
        clear q2
        generalize spansT (rgs s.has 256) = T at *
        have n1 : ¬ 9223372036854775807 < 1 + T.length := by omega
        have n2 : ¬ 9223372036854775807 < 1 + T.length + 1 := by omega
        go_wp2
        go_ret
        exact ⟨by rw [HE.out]; exact ret_str (ByteArray.ext (by simp)), HQ.out⟩
      · have he : str (textT s) = str (91 :: 94 :: (spansT (rgs s.not.has 256) ++ [93])) := by rw [textT, if_neg h256, if_neg h1, if_neg h128]
        have HE := Lib.hid he
        have hb2 : ¬ ((s.count : Int) ≤ 128) := by omega
        have hlen := spansT_len (rgs s.not.has 256)
        have hrl := rgs_le s.not.has 256
        clear he h256 h1 hnl hcc h128
        go_wp2_with fail
        refine (not_any s hs w1).mono ?_
        rintro e w2 ⟨rfl, q2⟩
        have HQ2 := Lib.hid (And.intro (H.out.1.trans q2) (H.out.2.keep q2))
        clear q2
        go_wp2_with fail
        refine (spans_any s.not (ST.not_ok s) w2 HQ2.out.2).mono ?_
        rintro e w3 ⟨rfl, q3⟩
        have HQ := Lib.hid (HQ2.out.1.trans q3)
        clear q3
        generalize spansT (rgs s.not.has 256) = T at *
        have n1 : ¬ 9223372036854775807 < 2 + T.length := by omega
        have n2 : ¬ 9223372036854775807 < 2 + T.length + 1 := by omega
        go_wp2
        go_ret
        exact ⟨by rw [HE.out]; exact ret_str (ByteArray.ext (by simp)), HQ.out⟩

end Go.Proofs.YtmeiboaagkoadaaGreatDoor.Bytes
/- Contract of the document's Text. -/
namespace Go.Proofs.YtmeiboaagkoadaaGreatDoor.Bytes
open Go.RowKit Go.Proofs.YtmeiboaagkoadaaGreatDoor.Base Go.Proofs.YtmeiboaagkoadaaGreatDoor.Sets Go.Proofs.YtmeiboaagkoadaaGreatDoor.PL Go.Proofs.YtmeiboaagkoadaaGreatDoor.IL

set_option maxRecDepth 100000 in
theorem rtext_any (s : ST) (hs : s.Ok) (w : World) : Calls Tryz.prog 21 #[val s] w fun e w' => e = .returned (str (textT s)) ∧ Keep (fun _ => False) w w' := by
  go_enter Tryz.func21, Tryz.ntmps21
  go_wp2_with fail
  have a1 := At.new w (cells s) 24
  have q1 := (Keep.refl (fun _ => False) w).alloc (.cells (cells s) 24)
  have A1 := Lib.hid (And.intro a1 q1)
  clear a1 q1
  generalize (w.alloc (.cells (cells s) 24)) = W at *
  obtain ⟨⟨c0, c1, c2, c3⟩, -⟩ := cells4 A1.out.1
  go_wp2_with fail
  refine (list_any s W).mono ?_
  rintro e w1 ⟨lv, rfl, hi, -, q1⟩
  have hq := A1.out.2.trans q1
  have ha := A1.out.1.keep q1 (fun h => h)
  clear c0 c1 c2 c3 A1 q1
  obtain ⟨⟨c0, c1, c2, c3⟩, -⟩ := cells4 ha
  have hlen : (lst s.has 256).length = s.count := lst_length _ _
  have hnl := nxt_lt_iff s.has
  have hhd := lst_head s.has
  have hcl := s.count_le
  have hcc : s.count = cnt s.has 256 := rfl
  obtain ⟨a, cap, hv, hcell⟩ := hi.form
  rw [hlen] at hv
  subst hv
  have H := Lib.hid hq
  clear hq ha hi hlen
  by_cases h256 : s.count = 256
  · have he : str (textT s) = str [46] := by rw [textT, if_pos h256]
    have HE := Lib.hid he
    have hb : ((s.count : Int) == 256) = true := by rw [h256]; rfl
    clear he h256 hnl hcc hhd hcell
    go_wp2
    go_ret
    exact ⟨by rw [HE.out]; rfl, H.out⟩
  · have hb : ((s.count : Int) == 256) = false := by simp; omega
    by_cases h1 : s.count = 1
    · have he : str (textT s) = str (esc (nxt s.has 0)) := by rw [textT, if_neg h256, if_pos h1]
      have HE := Lib.hid he
      have hb1 : ((s.count : Int) == 1) = true := by rw [h1]; rfl
      have hn : nxt s.has 0 < 256 := hnl.2 (by omega)
      obtain ⟨g, -, rfl, hc0⟩ := hcell 0 _ (hhd hn)
      have i1 : (0 : Int) < (s.count : Int) := by omega
      have hea := resc_any (nxt s.has 0) hn w1
      clear he h256 hnl hcc hhd hcell hcl
      generalize nxt s.has 0 = m at *
      rw [h1] at *
      go_wp2_with fail
      refine hea.mono ?_
      rintro e w3 ⟨rfl, q3⟩
      have HQ3 := Lib.hid (H.out.trans q3)
      clear q3 hea
      go_wp2
      go_ret
      exact ⟨by rw [HE.out]; rfl, HQ3.out⟩
    · have hb1 : ((s.count : Int) == 1) = false := by simp; omega
      by_cases h128 : s.count ≤ 128
      · have he : str (textT s) = str (91 :: (spansT (rgs s.has 256) ++ [93])) := by rw [textT, if_neg h256, if_neg h1, if_pos h128]
        have HE := Lib.hid he
        have hb2 : ((s.count : Int) ≤ 128) := by omega
        have hlen := spansT_len (rgs s.has 256)
        have hrl := rgs_le s.has 256
        clear he h256 h1 hnl hcc h128 hhd hcell
        go_wp2_with fail
        refine (inside_any s w1).mono ?_
        rintro e w2 ⟨rfl, q2⟩
        have HQ := Lib.hid (H.out.trans q2)
        clear q2
        generalize spansT (rgs s.has 256) = T at *
        have n1 : ¬ 9223372036854775807 < 1 + T.length := by omega
        have n2 : ¬ 9223372036854775807 < 1 + T.length + 1 := by omega
        go_wp2
        go_ret
        exact ⟨by rw [HE.out]; exact ret_str (ByteArray.ext (by simp)), HQ.out⟩
      · have he : str (textT s) = str (91 :: 94 :: (spansT (rgs s.not.has 256) ++ [93])) := by rw [textT, if_neg h256, if_neg h1, if_neg h128]
        have HE := Lib.hid he
        have hb2 : ¬ ((s.count : Int) ≤ 128) := by omega
        have hlen := spansT_len (rgs s.not.has 256)
        have hrl := rgs_le s.not.has 256
        clear he h256 h1 hnl hcc h128 hhd hcell
        go_wp2_with fail
        refine (rnot_any s hs w1).mono ?_
        rintro e w2 ⟨rfl, q2⟩
        have HQ2 := Lib.hid (H.out.trans q2)
        clear q2
        go_wp2_with fail
        refine (inside_any s.not w2).mono ?_
        rintro e w3 ⟨rfl, q3⟩
        have HQ := Lib.hid (HQ2.out.trans q3)
        clear q3
        generalize spansT (rgs s.not.has 256) = T at *
        have n1 : ¬ 9223372036854775807 < 2 + T.length := by omega
        have n2 : ¬ 9223372036854775807 < 2 + T.length + 1 := by omega
        go_wp2
        go_ret
        exact ⟨by rw [HE.out]; exact ret_str (ByteArray.ext (by simp)), HQ.out⟩

end Go.Proofs.YtmeiboaagkoadaaGreatDoor.Bytes

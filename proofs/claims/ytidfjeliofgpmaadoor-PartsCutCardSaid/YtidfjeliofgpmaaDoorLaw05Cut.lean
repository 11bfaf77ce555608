/- PartsCut, over what package parts keeps (Holds). -/
import Derived.Test.YtidfjeliofgpmaaDoorLaw05Tell
import Derived.Test.YtidfjeliofgpmaaDoorPart
import Derived.Deep.RegionHeld3
import Derived.BigQuiet
namespace Go.Proofs.YtidfjeliofgpmaaDoor.Parts
open Go.RowKit Go.Proofs.YtidfjeliofgpmaaDoor.Base Go.Proofs.YtidfjeliofgpmaaDoor.Sets Go.Proofs.YtidfjeliofgpmaaDoor.Bytes Go.Proofs.YtidfjeliofgpmaaDoor.SetL Go.Proofs.YtidfjeliofgpmaaDoor.OL Go.Proofs.YtidfjeliofgpmaaDoor.Cls Go.Proofs.YtidfjeliofgpmaaDoor.IL

/-- The bytes of the first j of some classes. -/
def sumS (L : List ST) (M : List Int) (j : Nat) : ST := ofP fun b => (M.take j).any fun c => decide ((cls (key L) b : Int) = c)
theorem has_sumS (L : List ST) (M : List Int) (j b : Nat) (hb : b < 256) : (sumS L M j).has b = (M.take j).any fun c => decide ((cls (key L) b : Int) = c) := has_ofP _ _ hb
theorem sumS_ok (L : List ST) (M : List Int) (j : Nat) : (sumS L M j).Ok := ofP_ok _
theorem sumS_0 (L : List ST) (M : List Int) : sumS L M 0 = ST.none := ST.ext (sumS_ok _ _ _) ST.none_ok fun b hb => by
  rw [has_sumS _ _ _ _ hb, ST.has_none]
  simp
theorem sumS_succ {L : List ST} {M : List Int} {j : Nat} {c : Int} (h : M[j]? = some c) : (sumS L M j).or (ofC L c) = sumS L M (j + 1) := ST.ext (ST.or_ok (sumS_ok _ _ _) (Part.ofC_ok _ _)) (sumS_ok _ _ _) fun b hb => by
  rw [ST.has_or _ _ _ hb, has_sumS _ _ _ _ hb, has_sumS _ _ _ _ hb, Part.has_ofC _ _ _ hb, List.take_add_one, h, List.any_append]
  simp
theorem sumS_all {L : List ST} {s : ST} (hs : s ∈ L) (ok : s.Ok) : sumS L (cl L s) (cl L s).length = s := ST.ext (sumS_ok _ _ _) ok fun b hb => by
  rw [has_sumS _ _ _ _ hb, List.take_length, Bool.eq_iff_iff, List.any_eq_true]
  constructor
  · rintro ⟨c, hc, e⟩
    unfold cl at hc
    obtain ⟨n, hn, rfl⟩ := List.mem_map.1 hc
    have hi := (List.mem_filter.1 hn).2
    unfold inn at hi
    have h2 := List.all_eq_true.1 hi b (List.mem_range.2 hb)
    have e' : cls (key L) b = n := by
      have := of_decide_eq_true e
      omega
    simpa [e'] using h2
  · intro h
    refine ⟨(cls (key L) b : Int), ?_, decide_eq_true rfl⟩
    unfold cl
    refine List.mem_map.2 ⟨cls (key L) b, List.mem_filter.2 ⟨List.mem_range.2 (cls_lt _ hb), ?_⟩, rfl⟩
    unfold inn
    refine List.all_eq_true.2 fun x hx => ?_
    by_cases e : cls (key L) x = cls (key L) b
    · have := (key_iff L x b).1 ((cls_iff _).1 e) s hs
      rw [this, h]
      simp
    · simp [e]

/-- Are two bytes told apart by one of the first m sets? -/
def toldBy (L : List ST) (x y m : Nat) : Bool := (L.take m).any fun s => s.has x != s.has y
theorem toldBy_0 (L : List ST) (x y : Nat) : toldBy L x y 0 = false := by simp [toldBy]
theorem toldBy_succ {L : List ST} {x y m : Nat} {s : ST} (h : L[m]? = some s) : toldBy L x y (m + 1) = (toldBy L x y m || (s.has x != s.has y)) := by
  unfold toldBy
  rw [List.take_add_one, h, List.any_append]
  simp
theorem toldBy_all {L : List ST} {x y : Nat} (h : key L x ≠ key L y) : toldBy L x y L.length = true := by
  unfold toldBy
  rw [List.take_length, List.any_eq_true]
  refine Classical.byContradiction fun k => h ?_
  rw [key_iff]
  intro s hs
  refine Classical.byContradiction fun e => k ⟨s, hs, ?_⟩
  cases h1 : s.has x <;> cases h2 : s.has y <;> simp [h1, h2] at e ⊢

set_option maxRecDepth 100000 in
set_option maxHeartbeats 4000000 in
theorem cut_law {PT : World → Value → List ST → Prop} (I : Holds PT) (w : World) (hT : Tab w) (a : Option Addr) (cap : Nat) (L : List ST) (hl : L.length ≤ 9223372036854775807) (hok : ∀ s ∈ L, s.Ok) (hL : SL w a L) :
    Calls Tryd.prog 4 #[.slice a L.length cap] w fun e w' => e = .returned (.bool true) ∧ Keep (fun _ => False) w w' := by
  have HI := Lib.hid I
  clear I
  have HT := Lib.hid (fun (w' : World) (q : Keep (fun _ => False) w w') => hT.keep q)
  have HL := Lib.hid (And.intro hok (fun (w' : World) (q : Keep (fun _ => False) w w') => hL.keep q (fun _ _ h => h)))
  clear hT hok hL
  go_enter Tryd.func4, Tryd.ntmps4
  go_wp2_with fail
  refine (awake_any HI.out w (HT.out _ (Keep.refl _ _))).mono ?_
  rintro e w1 ⟨rfl, q1⟩
  have P1 := Lib.hid q1
  clear q1
  by_cases h30 : L.length ≤ 30
  · have h30' : ¬ (30 : Int) < L.length := by omega
    obtain ⟨v', w2, hrun, hv, q2, hb⟩ := OL.onto (new_none w1) (fun g hg => by cases hg; exact Nat.le_refl _) ((Keep.refl (fun _ => False) w1).alloc _) (cap := cap) (HL.out.2 w1 P1.out) (by simp; omega) 22
    obtain ⟨va, vc, rfl, hsl, -⟩ := hv.form
    have P2 := Lib.hid (And.intro (P1.out.trans q2) hsl)
    clear hv hb q2 hsl P1
    go_wp2_with (at_builtin; refine Lib.wpList_append_run _ rfl _ _ _ _ rfl _ _ rfl rfl _ _ hrun ?_)
    clear hrun
    go_wp2_with fail
    refine (HI.out.cut (L := L) vc (HT.out _ P2.out.1) (by omega) HL.out.1 P2.out.2).mono ?_
    rintro e w3 ⟨v, rfl, hp, q3⟩
    obtain ⟨pa, rfl⟩ := HI.out.form hp
    have P3 := Lib.hid (And.intro (P2.out.1.trans q3) hp)
    clear hp q3 P2
    go_wp2_with fail
    go_loopg [32] L.length (fun gg i wr => ∃ k : Nat, i = .int .i64 k ∧ k + gg = L.length ∧ Keep (fun _ => False) w wr ∧ PT wr (.pointer (some pa)) L)
    case atStart => exact ⟨0, rfl, by omega, P3.out.1, P3.out.2⟩
    case round =>
      obtain ⟨k, rfl, hk, hq, hp⟩ := hrel
      clear P3
      by_cases hkl : k < L.length
      · have hkl' : (k : Int) < L.length := by omega
        obtain ⟨s, hs⟩ : ∃ s, L[k]? = some s := ⟨L[k], List.getElem?_eq_getElem hkl⟩
        obtain ⟨bl, off, rfl, -, -⟩ := (HL.out.2 _ hq).range hs
        have hc := (HL.out.2 _ hq).cells hs
        have c0 : wr.cell? ⟨bl, off + k * 4, none⟩ = some (.int .u64 s.x0) := hc 0 (by omega)
        have c1 : wr.cell? ⟨bl, off + k * 4 + 1, none⟩ = some (.int .u64 s.x1) := hc 1 (by omega)
        have c2 : wr.cell? ⟨bl, off + k * 4 + 2, none⟩ = some (.int .u64 s.x2) := hc 2 (by omega)
        have c3 : wr.cell? ⟨bl, off + k * 4 + 3, none⟩ = some (.int .u64 s.x3) := hc 3 (by omega)
        have hmem := List.mem_of_getElem? hs
        have hso : s.Ok := HL.out.1 s hmem
        have H := Lib.hid (And.intro hk (And.intro hq (And.intro hp (And.intro hso hmem))))
        clear hk hq hp hc hso hmem
        go_wp2_with fail
        have a5 := (At.new wr (cells s) 35).alloc (.cells zeros 35)
        have a6 := At.new (wr.alloc (.cells (cells s) 35)) zeros 35
        have qa := ((Keep.refl (fun _ => False) wr).alloc (.cells (cells s) 35)).alloc (.cells zeros 35)
        rw [show (wr.alloc (.cells (cells s) 35)).heap.size = wr.heap.size + 1 from by simp] at a6
        refine (HI.out.classes (HT.out _ (H.out.2.1.trans qa)) (HI.out.keep H.out.2.2.1 qa) H.out.2.2.2.1).mono ?_
        rintro e w4 ⟨u, rfl, hu, q4⟩
        have hsum := sumS_all H.out.2.2.2.2 H.out.2.2.2.1
        have hcle : (cl L s).length ≤ 256 := by
          unfold cl
          rw [List.length_map]
          have h1 := List.length_filter_le (inn L s) (List.range (ncl (key L)))
          rw [List.length_range] at h1
          have := ncl_le (key L)
          omega
        have hcr : ∀ c ∈ cl L s, 0 ≤ c ∧ c ≤ 256 := fun c hc => by
          unfold cl at hc
          obtain ⟨n, hn, rfl⟩ := List.mem_map.1 hc
          have h1 := List.mem_range.1 (List.mem_filter.1 hn).1
          have := ncl_le (key L)
          omega
        generalize cl L s = M at *
        obtain ⟨ua, uc, rfl, hget⟩ := hu.form
        have P5q : Keep (fun _ => False) wr w4 := qa.trans q4
        have P5 := Lib.hid (And.intro (H.out.2.1.trans (qa.trans q4)) (And.intro (HI.out.keep H.out.2.2.1 (qa.trans q4)) (And.intro (a5.keep q4 (fun h => h)) (And.intro (a6.keep q4 (fun h => h)) (And.intro hu (And.intro hsum hcr))))))
        clear a5 a6 qa q4 hu hsum hcr hget c0 c1 c2 c3
        have hqw : Keep (fun _ => False) wr w4 := P5q
        generalize hn5 : wr.heap.size = n5 at *
        have P6 := Lib.hid (And.intro hqw hn5)
        clear hqw hn5
        go_wp2_with fail
        go_loopg [40] M.length (fun gg i wx => ∃ j : Nat, i = .int .i64 j ∧ j + gg = M.length ∧ Keep (fun _ => False) wr wx ∧ At wx n5 35 (cells s) ∧ At wx (n5 + 1) 35 (cells (sumS L M j)) ∧ IL wx (.slice ua M.length uc) M)
        case atStart => exact ⟨0, rfl, by omega, P6.out.1, P5.out.2.2.1, by rw [sumS_0]; exact P5.out.2.2.2.1, P5.out.2.2.2.2.1⟩
        case round =>
          obtain ⟨j, rfl, hj, hq, h5, h6, hu⟩ := hrel
          have hsum := P5.out.2.2.2.2.2.1
          have hcr := P5.out.2.2.2.2.2.2
          have hso := sumS_ok L M j
          obtain ⟨⟨d0, d1, d2, d3⟩, f0, f1, f2, f3⟩ := cells4 h6
          by_cases hjl : j < M.length
          · have hjl' : (j : Int) < M.length := by omega
            obtain ⟨c, hc⟩ : ∃ c, M[j]? = some c := ⟨M[j], List.getElem?_eq_getElem hjl⟩
            obtain ⟨ua', uc', e, hget⟩ := hu.form
            injection e with e1 e2 e3
            subst e1 e3
            clear e2
            obtain ⟨g, hg, rfl, hcell⟩ := hget j c hc
            have hb := hcr c (List.mem_of_getElem? hc)
            have hnx := sumS_succ (L := L) hc
            have hgne : g ≠ n5 + 1 := by
              rcases hu.2 with ⟨h, _⟩ | ⟨g', cap', cur', h, _, h1, _⟩
              · cases h
              · injection h with h _ _
                injection h with h
                injection h with h
                subst h
                intro e
                subst e
                have h2 : wr.heap[n5 + 1]? = some (.cells (cells (sumS L M j)) 35 (0, 0)) := h6
                rw [h2] at h1
                injection h1 with h1
                injection h1 with _ h1
                exact absurd h1 (by decide)
            have HK := Lib.hid (And.intro hj (And.intro hq (And.intro h5 (And.intro h6 (And.intro hu (And.intro hnx (And.intro hb (And.intro hso hgne))))))))
            clear hj hq h5 h6 hu hnx hsum hcr hget hb hso hgne
            obtain ⟨T, hT⟩ : ∃ T, sumS L M j = T := ⟨_, rfl⟩
            rw [hT] at d0 d1 d2 d3 HK
            have hb := HK.out.2.2.2.2.2.2.1
            obtain ⟨R, hR⟩ : ∃ R, ofC L c = R := ⟨_, rfl⟩
            have hRo : R.Ok := by rw [← hR]; exact Part.ofC_ok _ _
            have HR := Lib.hid (And.intro hR hRo)
            clear hR hRo
            have HT' := Lib.hid hT
            clear hT
            go_wp2_with fail
            go_region_with (first
              | (go_at_call 14; refine (HI.out.of (c := c) (HT.out _ (H.out.2.1.trans HK.out.2.1.drew)) (HI.out.keep H.out.2.2.1 HK.out.2.1.drew) (by omega) (by omega)).mono ?_; rintro e w5 ⟨rfl, q5⟩; rw [HR.out.1]; have H5 := Lib.hid (And.intro (HK.out.2.1.drew.trans q5) (And.intro (HK.out.2.2.1.drew.keep q5 (fun h => h)) (And.intro (HK.out.2.2.2.1.drew.keep q5 (fun h => h)) (IL.keep (HK.out.2.2.2.2.1.keep (Keep.refl (fun _ => False) wr).drew (fun _ _ h => h)) q5 (fun _ _ h => h))))); clear q5; obtain ⟨⟨d0, d1, d2, d3⟩, f0, f1, f2, f3⟩ := cells4 H5.out.2.2.1)
              | (go_at_call 19; refine (or_any T R HK.out.2.2.2.2.2.2.2.1 HR.out.2 _).mono ?_; rintro e w6 ⟨rfl, q6⟩; have H6 := Lib.hid (And.intro (H5.out.1.trans q6) (And.intro (H5.out.2.1.keep q6 (fun h => h)) (And.intro (H5.out.2.2.1.keep q6 (fun h => h)) (H5.out.2.2.2.keep q6 (fun _ _ h => h))))); clear q6; obtain ⟨⟨d0, d1, d2, d3⟩, f0, f1, f2, f3⟩ := cells4 H6.out.2.2.1))
            all_goals
              go_wp2_with fail
              go_roundg (M.length - (j + 1))
              case measure => have := HK.out.1; omega
              case rel =>
                obtain ⟨x1, x2, x3, x4⟩ := H6.out
                have hnx := HK.out.2.2.2.2.2.1
                rw [HR.out.1] at hnx
                have y3 := set4 x3 (.int .u64 (T.or R).x0) (.int .u64 (T.or R).x1) (.int .u64 (T.or R).x2) (.int .u64 (T.or R).x3)
                have q7 := keep4 (Keep.refl (fun i => i = n5 + 1) w6) (b := n5 + 1) (fun _ => rfl) (.int .u64 (T.or R).x0) (.int .u64 (T.or R).x1) (.int .u64 (T.or R).x2) (.int .u64 (T.or R).x3)
                refine ⟨j + 1, by go_num, by have := HK.out.1; omega, x1.next q7 (fun i hi hl => by have := P6.out.2; omega), x2.keep q7 (by omega), by rw [← hnx]; exact y3, x4.keep q7 (fun g' hg' h => ?_)⟩
                have e1 : some g = some g' := hg'
                injection e1 with e1
                have h' : g' = n5 + 1 := h
                exact HK.out.2.2.2.2.2.2.2.2 (by rw [e1]; exact h')
          · have hje : j = M.length := by omega
            subst hje
            rw [hsum] at d0 d1 d2 d3
            obtain ⟨⟨e0, e1, e2, e3⟩, -⟩ := cells4 h5
            have HK := Lib.hid hq
            clear hj hq h5 h6 hu hsum hcr hso f0 f1 f2 f3
            have E1 := fun w => eq_yes (rfl : s = s) w
            go_wp2_with fail
            go_roundg (L.length - (k + 1))
            case measure => have := H.out.1; omega
            case rel => exact ⟨k + 1, by go_num, by have := H.out.1; omega, H.out.2.1.trans HK.out, HI.out.keep H.out.2.2.1 HK.out⟩
      · have hkL : k = L.length := by omega
        subst hkL
        have H := Lib.hid (And.intro hq hp)
        clear hq hp hk
        go_wp2_with fail
        refine (HI.out.len (HT.out _ H.out.1) H.out.2).mono ?_
        rintro e w4 ⟨rfl, q4⟩
        have hnl := ncl_le (key L)
        obtain ⟨N, hN⟩ : ∃ N, N = ncl (key L) := ⟨_, rfl⟩
        rw [← hN]
        rw [← hN] at hnl
        have P4 := Lib.hid (And.intro (H.out.1.trans q4) (And.intro (HI.out.keep H.out.2 q4) hN))
        clear q4 H hN
        go_wp2_with fail
        go_loopg [56] N (fun gg i wr => ∃ c : Nat, i = .int .i64 c ∧ c + gg = N ∧ Keep (fun _ => False) w wr ∧ PT wr (.pointer (some pa)) L)
        case atStart => exact ⟨0, rfl, by omega, P4.out.1, P4.out.2.1⟩
        case round =>
          obtain ⟨c, rfl, hc, hq, hp⟩ := hrel
          by_cases hcl : c < N
          · have hcl' : (c : Int) < N := by omega
            have H := Lib.hid (And.intro hc (And.intro hq hp))
            clear hc hq hp
            go_wp2_with fail
            go_loopg [60] c (fun gg i wr => ∃ d : Nat, i = .int .i64 d ∧ d + gg = c ∧ Keep (fun _ => False) w wr ∧ PT wr (.pointer (some pa)) L)
            case atStart => exact ⟨0, rfl, by omega, H.out.2.1, H.out.2.2⟩
            case round =>
              obtain ⟨d, rfl, hd, hq, hp⟩ := hrel
              by_cases hdc : d < c
              · have hdc' : (d : Int) < c := by omega
                obtain ⟨x, hx, hfx, hcx, -⟩ := cls_onto (key L) (c := c) (by rw [← P4.out.2.2]; exact hcl)
                obtain ⟨y, hy, hfy, hcy, -⟩ := cls_onto (key L) (c := d) (by rw [← P4.out.2.2]; omega)
                have hne : key L x ≠ key L y := fun e => by
                  have := cls_eq (key L) e
                  omega
                have S1 := fun (w' : World) (hT' : Tab w') (h : PT w' (.pointer (some pa)) L) => HI.out.sample hT' h hx hfx
                have S2 := fun (w' : World) (hT' : Tab w') (h : PT w' (.pointer (some pa)) L) => HI.out.sample hT' h hy hfy
                rw [hcx] at S1
                rw [hcy] at S2
                have H2 := Lib.hid (And.intro hd (And.intro hq (And.intro hp (And.intro S1 (And.intro S2 (toldBy_all hne))))))
                clear hd hq hp S1 S2 hne hfx hfy hcx hcy
                go_wp2_with fail
                refine (H2.out.2.2.2.1 _ (HT.out _ H2.out.2.1) H2.out.2.2.1).mono ?_
                rintro e w5 ⟨rfl, q5⟩
                have Q5 := Lib.hid q5
                clear q5
                go_wp2_with fail
                refine (H2.out.2.2.2.2.1 _ (HT.out _ (H2.out.2.1.trans Q5.out)) (HI.out.keep H2.out.2.2.1 Q5.out)).mono ?_
                rintro e w6 ⟨rfl, q6⟩
                have Q6 := Lib.hid (Q5.out.trans q6)
                clear q6 Q5
                go_wp2_with fail
                go_loopg [15, 77] L.length (fun gg t i wx => ∃ m : Nat, t = .bool (toldBy L x y m) ∧ i = .int .i64 m ∧ m + gg = L.length ∧ Keep (fun _ => False) wr wx)
                case atStart => exact ⟨0, by rw [toldBy_0], rfl, by omega, Q6.out⟩
                case round =>
                  obtain ⟨m, rfl, rfl, hm, hq⟩ := hrel
                  by_cases hml : m < L.length
                  · have hml' : (m : Int) < L.length := by omega
                    obtain ⟨s, hs⟩ : ∃ s, L[m]? = some s := ⟨L[m], List.getElem?_eq_getElem hml⟩
                    obtain ⟨bl, off, rfl, -, -⟩ := (HL.out.2 _ (H2.out.2.1.trans hq)).range hs
                    have hcs := (HL.out.2 _ (H2.out.2.1.trans hq)).cells hs
                    have c0 : wr.cell? ⟨bl, off + m * 4, none⟩ = some (.int .u64 s.x0) := hcs 0 (by omega)
                    have c1 : wr.cell? ⟨bl, off + m * 4 + 1, none⟩ = some (.int .u64 s.x1) := hcs 1 (by omega)
                    have c2 : wr.cell? ⟨bl, off + m * 4 + 2, none⟩ = some (.int .u64 s.x2) := hcs 2 (by omega)
                    have c3 : wr.cell? ⟨bl, off + m * 4 + 3, none⟩ = some (.int .u64 s.x3) := hcs 3 (by omega)
                    have hstep := toldBy_succ (x := x) (y := y) hs
                    have H3 := Lib.hid (And.intro hm (And.intro hq hstep))
                    clear hm hq hstep hs hcs
                    obtain ⟨tb, htb⟩ : ∃ tb, toldBy L x y m = tb := ⟨_, rfl⟩
                    rw [htb]
                    have HB := Lib.hid htb
                    clear htb
                    go_wp2_with fail
                    have hqa := (Keep.refl (fun _ => False) wr).alloc (.cells (cells s) 35)
                    have han := At.new wr (cells s) 35
                    generalize (wr.alloc (.cells (cells s) 35)) = w8 at *
                    generalize wr.heap.size = n8 at *
                    obtain ⟨⟨d0, d1, d2, d3⟩, -⟩ := cells4 han
                    have H4 := Lib.hid (And.intro (H3.out.2.1.trans hqa) han)
                    clear hqa han c0 c1 c2 c3
                    cases tb
                    · obtain ⟨p, hp⟩ : ∃ v, s.has x = v := ⟨_, rfl⟩
                      obtain ⟨r, hr⟩ : ∃ v, s.has y = v := ⟨_, rfl⟩
                      have HP := Lib.hid hp
                      have HR := Lib.hid hr
                      clear hp hr
                      have hxw : IntKind.i64.wrap (x : Int) = x := by rw [IntKind.wrap_i64]; omega
                      have hyw : IntKind.i64.wrap (y : Int) = y := by rw [IntKind.wrap_i64]; omega
                      have hS : ∀ w', Keep (fun _ => False) w8 w' → Keep (fun _ => False) w8 w' ∧ w'.cell? ⟨n8, 0, none⟩ = some (.int .u64 s.x0) ∧ w'.cell? ⟨n8, 1, none⟩ = some (.int .u64 s.x1) ∧ w'.cell? ⟨n8, 2, none⟩ = some (.int .u64 s.x2) ∧ w'.cell? ⟨n8, 3, none⟩ = some (.int .u64 s.x3) := fun w' q => by
                        obtain ⟨⟨d0, d1, d2, d3⟩, -⟩ := cells4 (H4.out.2.keep q (fun h => h))
                        exact ⟨q, d0, d1, d2, d3⟩
                      have HS := Lib.hid hS
                      clear hS d0 d1 d2 d3
                      go_region_held3 (fun w' => Keep (fun _ => False) w8 w' ∧ w'.cell? ⟨n8, 0, none⟩ = some (.int .u64 s.x0) ∧ w'.cell? ⟨n8, 1, none⟩ = some (.int .u64 s.x1) ∧ w'.cell? ⟨n8, 2, none⟩ = some (.int .u64 s.x2) ∧ w'.cell? ⟨n8, 3, none⟩ = some (.int .u64 s.x3)) (first | exact HS.out _ ((Keep.refl _ _).drew) | exact HS.out _ (Keep.trans (And.left (by assumption)) q)) (first
                        | (go_at_call_of 20 (Value.int IntKind.i64 (x : Int)); refine (rhas_is hx HP.out _).mono ?_; rintro e w9 ⟨rfl, q⟩)
                        | (go_at_call_of 20 (Value.int IntKind.i64 (y : Int)); refine (rhas_is hy HR.out _).mono ?_; rintro e w9 ⟨rfl, q⟩))
                      all_goals
                        rename_i hh
                        have HK := Lib.hid (H4.out.1.trans hh.1)
                        clear hh
                        go_wp2_with fail
                        go_roundg (L.length - (m + 1))
                        case measure => have := H3.out.1; omega
                        case rel => exact ⟨m + 1, by rw [H3.out.2.2, HB.out, HP.out, HR.out]; cases p <;> cases r <;> rfl, by go_num, by have := H3.out.1; omega, HK.out⟩
                    · go_quiet (fail)
                      go_wp2_with fail
                      go_roundg (L.length - (m + 1))
                      case measure => have := H3.out.1; omega
                      case rel => exact ⟨m + 1, by rw [H3.out.2.2, HB.out]; rfl, by go_num, by have := H3.out.1; omega, by first | exact H4.out.1.drewN _ | exact H4.out.1.drew⟩
                  · have hme : m = L.length := by omega
                    subst hme
                    rw [H2.out.2.2.2.2.2]
                    have H3 := Lib.hid hq
                    clear hq hm
                    go_wp2_with fail
                    go_roundg (c - (d + 1))
                    case measure => have := H2.out.1; omega
                    case rel => exact ⟨d + 1, by go_num, by have := H2.out.1; omega, H2.out.2.1.trans H3.out, HI.out.keep H2.out.2.2.1 H3.out⟩
              · have hde : d = c := by omega
                subst hde
                have H2 := Lib.hid (And.intro hq hp)
                clear hq hp hd
                go_wp2_with fail
                go_roundg (N - (d + 1))
                case measure => have := H.out.1; omega
                case rel => exact ⟨d + 1, by go_num, by have := H.out.1; omega, H2.out.1, H2.out.2⟩
          · have hce : c = N := by omega
            subst hce
            have H := Lib.hid hq
            clear hq hp hc
            go_wp2_with fail
            go_ret
            exact ⟨rfl, H.out⟩
  · have h30' : (30 : Int) < L.length := by omega
    clear h30
    go_wp2_with fail
    refine (awake_any HI.out w1 (HT.out _ P1.out)).mono ?_
    rintro e w2 ⟨rfl, q2⟩
    have P2 := Lib.hid (P1.out.trans q2)
    clear q2 P1
    go_wp2_with fail
    go_ret
    exact ⟨rfl, P2.out⟩
end Go.Proofs.YtidfjeliofgpmaaDoor.Parts

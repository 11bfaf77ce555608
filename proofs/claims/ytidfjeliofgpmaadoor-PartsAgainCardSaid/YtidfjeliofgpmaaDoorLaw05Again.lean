/- PartsAgain, over what package parts keeps (Holds). -/
import Derived.Test.YtidfjeliofgpmaaDoorLaw05Tell
import Derived.Test.YtidfjeliofgpmaaDoorPart
import Derived.Deep.RegionHeld3
import Derived.Deep.DeepCutAuto
import Derived.Deep.CutBlock
import Derived.Deep.MidRow
namespace Go.Proofs.YtidfjeliofgpmaaDoor.Parts
open Go.RowKit Go.Proofs.YtidfjeliofgpmaaDoor.Base Go.Proofs.YtidfjeliofgpmaaDoor.Sets Go.Proofs.YtidfjeliofgpmaaDoor.Bytes Go.Proofs.YtidfjeliofgpmaaDoor.SetL Go.Proofs.YtidfjeliofgpmaaDoor.OL Go.Proofs.YtidfjeliofgpmaaDoor.Cls Go.Proofs.YtidfjeliofgpmaaDoor.IL

/-- append at a ready operation of a region, guarded or not. -/
theorem step_append_at {P : Program} (w : World) {ops : Array Oper} {o : Oper} {a : Act} {K : Act → World → Prop} {Q : Exit → Act → World → Prop} {E : Prop} (hw : Region.wanted o (yielded ops a.tmps) = true) (s x : Operand) (t tn : TypeId)
    (ho : o.op = .call { callee := .builtin .append, args := #[s, x], argTypes := #[t, tn] }) (vs vx : Value) (hs : a.eval s = vs) (hx : a.eval x = vx)
    (v' : Value) (w' : World) (hr : (Builtin.append_ #[t, tn] o.type #[vs, vx]).run P w = .ok v' w') (h : K (a.put o.dst v') w') :
    if Region.wanted o (yielded ops a.tmps) = true then Oper.wp P o a w K Q else E := by
  rw [if_pos hw]
  exact Lib.wp_append_run w s x t tn ho vs vx hs hx v' w' hr h

/-- Lists of sets that tell the same bytes apart have the same classes. -/
theorem same_row {L M : List ST} (h : ∀ a b, a < 256 → b < 256 → (key M a = key M b ↔ key L a = key L b)) : arr8 (fun i => (cls (key M) i : Int)) = arr8 fun i => (cls (key L) i : Int) := arr8_congr fun i hi => by
  rw [cls_congr (K := key M) (J := key L) h hi]
theorem again_classes (L : List ST) (a b : Nat) (ha : a < 256) (hb : b < 256) : key ((List.range (ncl (key L))).map fun j : Nat => ofC L (j : Int)) a = key ((List.range (ncl (key L))).map fun j : Nat => ofC L (j : Int)) b ↔ key L a = key L b := by
  rw [key_iff, ← cls_iff (key L)]
  constructor
  · intro h
    have := h (ofC L (cls (key L) a)) (List.mem_map.2 ⟨_, List.mem_range.2 (cls_lt (key L) ha), rfl⟩)
    rw [Part.has_ofC _ _ _ ha, Part.has_ofC _ _ _ hb, decide_eq_true rfl] at this
    have := of_decide_eq_true this.symm
    omega
  · intro h s hs
    obtain ⟨j, -, rfl⟩ := List.mem_map.1 hs
    rw [Part.has_ofC _ _ _ ha, Part.has_ofC _ _ _ hb, h]
theorem again_twice (L : List ST) (a b : Nat) : key (L ++ L) a = key (L ++ L) b ↔ key L a = key L b := key_same (by simp) a b

set_option maxRecDepth 100000 in
set_option maxHeartbeats 4000000 in
theorem again_any {PT : World → Value → List ST → Prop} (I : Holds PT) (w : World) (hT : Tab w) (a : Option Addr) (cap : Nat) (L : List ST) (hl : L.length ≤ 9223372036854775807) (hok : ∀ s ∈ L, s.Ok) (hL : SL w a L) :
    Calls Tryd.prog 7 #[.slice a L.length cap] w fun e w' => e = .returned (.bool true) ∧ Keep (fun _ => False) w w' := by
  have HI := Lib.hid I
  clear I
  have HT := Lib.hid (fun (w' : World) (q : Keep (fun _ => False) w w') => hT.keep q)
  have HL := Lib.hid (And.intro hok (fun (w' : World) (q : Keep (fun _ => False) w w') => hL.keep q (fun _ _ h => h)))
  clear hT hok hL
  go_enter Tryd.func7, Tryd.ntmps7
  go_wp2_with fail
  refine (awake_any HI.out w (HT.out _ (Keep.refl _ _))).mono ?_
  rintro e w1 ⟨rfl, q1⟩
  have P1 := Lib.hid q1
  clear q1
  by_cases h30 : L.length ≤ 20
  · have h30' : ¬ (20 : Int) < L.length := by omega
    obtain ⟨v', w2, hrun, hv, q2, hb⟩ := OL.onto (new_none w1) (fun g hg => by cases hg; exact Nat.le_refl _) ((Keep.refl (fun _ => False) w1).alloc _) (cap := cap) (HL.out.2 w1 P1.out) (by simp; omega) 22
    obtain ⟨va, vc, rfl, hsl, -⟩ := hv.form
    have P2 := Lib.hid (And.intro (P1.out.trans q2) hsl)
    clear hv hb q2 hsl P1
    go_wp2_with (at_builtin; refine Lib.wpList_append_run _ rfl _ _ _ _ rfl _ _ rfl rfl _ _ hrun ?_)
    clear hrun
    go_wp2_with fail
    refine (HI.out.cut (L := L) vc (HT.out _ P2.out.1) (by omega) HL.out.1 P2.out.2).mono ?_
    rintro e w3 ⟨v, rfl, hp, q3⟩
    obtain ⟨pa, rfl⟩ := HI.out.form hp
    have P3 := Lib.hid (And.intro (P2.out.1.trans q3) hp)
    clear hp q3 P2
    go_wp2_with fail
    refine (HI.out.len (HT.out _ P3.out.1) P3.out.2).mono ?_
    rintro e w4 ⟨rfl, q4⟩
    have hnl := ncl_le (key L)
    obtain ⟨N, hN⟩ : ∃ N, N = ncl (key L) := ⟨_, rfl⟩
    rw [← hN]
    rw [← hN] at hnl
    have P4 := Lib.hid (And.intro (P3.out.1.trans q4) (And.intro (HI.out.keep P3.out.2 q4) hN))
    clear q4 P3 hN
    go_wp2_with fail
    go_loopg [4, 24] N (fun gg u i wr => ∃ c : Nat, i = .int .i64 c ∧ c + gg = N ∧ Keep (fun _ => False) w4 wr ∧ OL wr u ((List.range c).map fun j : Nat => ofC L (j : Int)) ∧ ∀ g, u.ownBlock = some g → w4.heap.size ≤ g)
    case atStart => exact ⟨0, rfl, by omega, Keep.refl _ _, OL.nil _, fun g hg => by cases hg⟩
    case round =>
      obtain ⟨c, rfl, hc, hq, hu, hb⟩ := hrel
      by_cases hcl : c < N
      · have hcl' : (c : Int) < N := by omega
        have H := Lib.hid (And.intro hc (And.intro hq (And.intro hu hb)))
        clear hc hq hu hb
        go_wp2_with fail
        refine (HI.out.of (c := (c : Int)) (HT.out _ (P4.out.1.trans H.out.2.1)) (HI.out.keep P4.out.2.1 H.out.2.1) (by omega) (by omega)).mono ?_
        rintro e w5 ⟨rfl, q5⟩
        obtain ⟨hc, hq, hu, hb⟩ := H.out
        obtain ⟨v', w6, hrun, hv, q6, hb6⟩ := (hu.keep q5 (fun _ _ h => h)).push (ofC L (c : Int)) (by simp; omega) 22
        have hq6 : Keep (fun _ => False) w4 w6 := (hq.trans q5).next q6 (fun i hh hi => by have := hb i hh; omega)
        have hv6 : ∀ g, v'.ownBlock = some g → w4.heap.size ≤ g := fun g hg => by
          rcases hb6 g hg with h | h
          · exact hb g h
          · exact Nat.le_trans (hq.trans q5).size h
        have hm : (List.range c).map (fun j : Nat => ofC L (j : Int)) ++ [ofC L (c : Int)] = (List.range (c + 1)).map fun j : Nat => ofC L (j : Int) := by
          rw [List.range_succ, List.map_append]
          rfl
        rw [hm] at hv
        have H6 := Lib.hid (And.intro hc (And.intro hq6 (And.intro hv hv6)))
        clear hc hq hu hb q5 q6 hb6 hq6 hv6 hv hm H
        generalize ofC L (c : Int) = S at *
        go_wp2_with (at_builtin; refine Lib.wpList_append_run _ rfl _ _ _ _ rfl _ _ rfl rfl _ _ hrun ?_)
        clear hrun
        go_wp2_with fail
        go_roundg (N - (c + 1))
        case measure => have := H6.out.1; omega
        case rel => exact ⟨c + 1, by go_num, by have := H6.out.1; omega, H6.out.2.1, H6.out.2.2.1, H6.out.2.2.2⟩
      · have hcN : c = N := by omega
        subst hcN
        have H := Lib.hid (And.intro hq (And.intro hu hb))
        clear hq hu hb hc
        go_wp2_with fail
        go_loopg [5, 36] L.length (fun gg u i wx => ∃ k : Nat, i = .int .i64 k ∧ k + gg = L.length ∧ Keep (fun _ => False) wr wx ∧ OL wx u ((L.take k).map ST.not) ∧ ∀ g, u.ownBlock = some g → wr.heap.size ≤ g)
        case atStart => exact ⟨0, rfl, by omega, Keep.refl _ _, OL.nil _, fun g hg => by cases hg⟩
        case round =>
          obtain ⟨k, rfl, hk, hq, hu, hb⟩ := hrel
          by_cases hkl : k < L.length
          · have hkl' : (k : Int) < L.length := by omega
            obtain ⟨s, hs⟩ : ∃ s, L[k]? = some s := ⟨L[k], List.getElem?_eq_getElem hkl⟩
            have hq4 := (P4.out.1.trans H.out.1).trans hq
            obtain ⟨bl, off, rfl, -, -⟩ := (HL.out.2 _ hq4).range hs
            have hc := (HL.out.2 _ hq4).cells hs
            have c0 : wr.cell? ⟨bl, off + k * 4, none⟩ = some (.int .u64 s.x0) := hc 0 (by omega)
            have c1 : wr.cell? ⟨bl, off + k * 4 + 1, none⟩ = some (.int .u64 s.x1) := hc 1 (by omega)
            have c2 : wr.cell? ⟨bl, off + k * 4 + 2, none⟩ = some (.int .u64 s.x2) := hc 2 (by omega)
            have c3 : wr.cell? ⟨bl, off + k * 4 + 3, none⟩ = some (.int .u64 s.x3) := hc 3 (by omega)
            have hso : s.Ok := HL.out.1 s (List.mem_of_getElem? hs)
            have H2 := Lib.hid (And.intro hk (And.intro hq (And.intro hu (And.intro hb (And.intro hso (And.intro hs hq4))))))
            clear hk hq hu hb hc hso hs hq4
            go_wp2_with fail
            have qa := (Keep.refl (fun _ => False) wr).alloc (.cells (cells s) 35)
            refine (not_any s H2.out.2.2.2.2.1 _).mono ?_
            rintro e w5 ⟨rfl, q5⟩
            obtain ⟨hk, hq, hu, hb, hso, hs, hq4⟩ := H2.out
            have q5' := qa.trans q5
            obtain ⟨v', w6, hrun, hv, hq6, hv6⟩ := (hu.keep q5' (fun _ _ h => h)).push_far (hq.trans q5') hb s.not (by simp; omega) 22
            have hm : (L.take k).map ST.not ++ [s.not] = (L.take (k + 1)).map ST.not := by
              rw [List.take_add_one, hs, List.map_append]
              rfl
            rw [hm] at hv
            have H6 := Lib.hid (And.intro hk (And.intro hq6 (And.intro hv hv6)))
            clear hk hq hu hb hso hs hq4 qa q5 q5' hq6 hv6 hv hm H2 c0 c1 c2 c3
            generalize s.not = S at *
            go_wp2_with (at_builtin; refine Lib.wpList_append_run _ rfl _ _ _ _ rfl _ _ rfl rfl _ _ hrun ?_)
            clear hrun
            go_wp2_with fail
            go_roundg (L.length - (k + 1))
            case measure => have := H6.out.1; omega
            case rel => exact ⟨k + 1, by go_num, by have := H6.out.1; omega, H6.out.2.1, H6.out.2.2.1, H6.out.2.2.2⟩
          · have hkL : k = L.length := by omega
            subst hkL
            rw [List.take_length] at hu
            have H2 := Lib.hid (And.intro hq (And.intro hu hb))
            clear hq hu hb hk
            go_wp2_with fail
            have qr := H.out.1.trans H2.out.1
            refine (HI.out.remap (HT.out _ (P4.out.1.trans qr)) (HI.out.keep P4.out.2.1 qr)).mono ?_
            rintro e w14 ⟨rfl, q14⟩
            have E1 := fun w => eq_arr8 (fun i => (cls (key L) i : Int)) (fun i => (cls (key L) i : Int)) w
            rw [(sameTo_iff 256 _ _).2 (fun _ _ => rfl)] at E1
            have hz := run_zero8
            obtain ⟨ys, hys⟩ : ∃ ys, ys = arr8 fun _ => 0 := ⟨_, rfl⟩
            rw [← hys] at hz
            obtain ⟨R, hR⟩ : ∃ R, R = arr8 fun i => (cls (key L) i : Int) := ⟨_, rfl⟩
            rw [← hR] at E1 ⊢
            have sR : ys.size = R.size ∧ (Tryd.prog.info? 29).map (·.size) = some R.size ∧ R.all (·.oneCell') = true := by
              rw [hys, hR, arr8_size, arr8_size]
              exact ⟨rfl, size8, arr8_one _⟩
            -- the three lists
            obtain ⟨LC, hLC⟩ : ∃ LC, LC = (List.range c).map fun j : Nat => ofC L (j : Int) := ⟨_, rfl⟩
            obtain ⟨LN, hLN⟩ : ∃ LN, LN = L.map ST.not := ⟨_, rfl⟩
            obtain ⟨LL, hLL⟩ : ∃ LL, LL = L ++ L := ⟨_, rfl⟩
            have row1 : arr8 (fun i => (cls (key LC) i : Int)) = R := by rw [hLC, hR, P4.out.2.2]; exact same_row (again_classes L)
            have row2 : arr8 (fun i => (cls (key LL) i : Int)) = R := by rw [hLL, hR]; exact same_row (fun a b _ _ => again_twice L a b)
            have row3 : arr8 (fun i => (cls (key LN) i : Int)) = R := by rw [hLN, hR]; exact same_row (fun a b ha hb => key_not HL.out.1 ha hb)
            have okC : LC.length ≤ 1000 ∧ ∀ s ∈ LC, s.Ok := by
              rw [hLC]
              refine ⟨by simp; omega, fun s hs => ?_⟩
              obtain ⟨j, -, rfl⟩ := List.mem_map.1 hs
              exact Part.ofC_ok _ _
            have okL : LL.length ≤ 1000 ∧ ∀ s ∈ LL, s.Ok := by
              rw [hLL]
              refine ⟨by simp; omega, fun s hs => ?_⟩
              rcases List.mem_append.1 hs with h | h <;> exact HL.out.1 s h
            have okN : LN.length ≤ 1000 ∧ ∀ s ∈ LN, s.Ok := by
              rw [hLN]
              refine ⟨by simp; omega, fun s hs => ?_⟩
              obtain ⟨t, -, rfl⟩ := List.mem_map.1 hs
              exact ST.not_ok t
            have oC := H.out.2.1.keep (H2.out.1.trans q14) (fun _ _ h => h)
            have oN := H2.out.2.1.keep q14 (fun _ _ h => h)
            rw [← hLC] at oC
            rw [← hLN] at oN
            obtain ⟨a4, c4, rfl, sC, -⟩ := oC.form
            obtain ⟨a5, c5, rfl, sN, -⟩ := oN.form
            have RR := Lib.hid (And.intro row1 (And.intro row2 (And.intro row3 (And.intro okC (And.intro okL (And.intro okN hLL))))))
            have SR := Lib.hid (And.intro sR (At.new w14 ys 29))
            have P14 := Lib.hid (And.intro (P4.out.1.trans (qr.trans q14)) (And.intro sC sN))
            clear row1 row2 row3 okC okL okN hLC hLN hLL oC oN sC sN sR hR hys qr q14 H H2
            go_wp2_with (refine wpList_store_row rfl 29 _ _ rfl w14.heap.size R rfl rfl 29 ys SR.out.2 SR.out.1.2.1 SR.out.1.1 SR.out.1.2.2 ?_; rw [World.setRow_alloc_new])
            have am := At.new w14 R 29
            have qm := (Keep.refl (fun _ => False) w14).alloc (.cells R 29)
            have P15 := Lib.hid (And.intro (P14.out.1.trans qm) (And.intro (P14.out.2.1.keep qm (fun _ _ h => h)) (And.intro (P14.out.2.2.keep qm (fun _ _ h => h)) (And.intro am SR.out.1.2.1))))
            clear am qm P14 SR hz
            generalize (w14.alloc (.cells R 29)) = w15 at *
            generalize w14.heap.size = b9 at *
            have hS : ∀ w', Keep (fun _ => False) w15 w' → Keep (fun _ => False) w15 w' ∧ w'.rangeAt b9 0 R.toList := fun w' q => ⟨q, fun j v hv => by
              rw [Array.getElem?_toList] at hv
              rw [Nat.zero_add]
              exact (P15.out.2.2.2.1.keep q (fun h => h)).cell hv⟩
            have HS := Lib.hid hS
            clear hS
            have hRi : (Tryd.prog.info? 29).map (·.size) = some R.toList.length := by rw [Array.length_toList]; exact P15.out.2.2.2.2
            have HRi := Lib.hid hRi
            clear hRi
            have E2 : ∀ w, (Op.equalIn 10000 29 (.agg R) (.agg R.toList.toArray)).run Tryd.prog w = .ok true w := fun w => by
              rw [Array.toArray_toList]
              exact E1 w
            have hl40 : L.length + L.length ≤ 2097152 := by omega
            have hl20 : ([] : List ST).length + L.length ≤ 2097152 := by simp; omega
            refine wp_region_noPanic ?_
            refine wp_region_held_drew (S := (fun w' => Keep (fun _ => False) w15 w' ∧ w'.rangeAt b9 0 R.toList)) (by kernel_rfl) ?_ (fun hHeld => ?_)
            · exact HS.out _ ((Keep.refl _ _).drew)
            refine wpAnyH_take (i := 0) (oi := { dst := some 48, op := Go.Op.move (Go.Operand.tmp 4), type := 22, pos := "law.go:122", after := #[], guard := none }) (v := ?_) rfl (by kernel_rfl) (by kernel_rfl) (by kernel_rfl) (fun _ _ _ h => h) (Or.inl ⟨by rfl, ?_⟩) (by assumption) ?_
            rotate_left 1
            · (intro w hSw; (try dsimp only at hSw); go_simp; first | done | with_reducible rfl)
            try simp only [Act.put, List.setIfInBounds_toArray, List.set_cons_zero, List.set_cons_succ]
            refine wpAnyH_take (i := 3) (oi := { dst := some 51, op := Go.Op.load 29 (Go.Operand.tmp 9), type := 29, pos := "law.go:122", after := #[], guard := none }) (v := .agg R.toList.toArray) rfl (by kernel_rfl) (by kernel_rfl) (by kernel_rfl) (fun _ _ _ h => h) (yieldsIf_load_mid (by rfl) 29 _ rfl b9 0 rfl R.toList _ (fun _ h => h.2) Tryd.underlying29 rfl HRi.out) (by assumption) ?_
            try simp only [Act.put, List.setIfInBounds_toArray, List.set_cons_zero, List.set_cons_succ]
            refine wpAnyH_ready (rs := [1]) (by kernel_rfl) (by simp) ?_
            refine (AllReadyH.cons (o := { dst := some 49, op := Go.Op.call { callee := Go.Callee.value (Go.Operand.func 9), args := #[Go.Operand.tmp 48], argTypes := #[22] }, type := 24, pos := "law.go:122", after := #[{ on := 0, ground := Go.Ground.data }], guard := none }) rfl (fun K hK => ?_) AllReadyH.nil)
            go_simp
            go_at_call 9
            refine (HI.out.cut (L := LC) _ (HT.out _ (P15.out.1.trans (And.left hHeld))) RR.out.2.2.2.1.1 RR.out.2.2.2.1.2 (P15.out.2.1.keep (And.left hHeld) (fun _ _ h => h))).mono ?_
            rintro e w16 ⟨v16, rfl, hp16, q⟩
            obtain ⟨p16, rfl⟩ := HI.out.form hp16
            refine hK.out _ _ ?_ (fun hHeld' => ?_)
            · exact HS.out _ (Keep.trans (And.left hHeld) q)
            clear hK K hHeld
            have hHeld := hHeld'
            clear hHeld'
            try simp only [Act.put, List.setIfInBounds_toArray, List.set_cons_zero, List.set_cons_succ]
            refine wpAnyH_ready (rs := [2]) (by kernel_rfl) (by simp) ?_
            refine (AllReadyH.cons (o := { dst := some 50, op := Go.Op.call { callee := Go.Callee.value (Go.Operand.func 11), args := #[Go.Operand.tmp 49], argTypes := #[24] }, type := 29, pos := "law.go:122", after := #[{ on := 1, ground := Go.Ground.data }, { on := 1, ground := Go.Ground.chain }], guard := none }) rfl (fun K hK => ?_) AllReadyH.nil)
            go_simp
            go_at_call 11
            refine (HI.out.remap (HT.out _ (P15.out.1.trans (And.left hHeld))) hp16).mono ?_
            rintro e w17 ⟨rfl, q⟩
            rw [RR.out.1]
            have K17 := Keep.trans (And.left hHeld) q
            refine hK.out _ _ ?_ (fun hHeld' => ?_)
            · exact HS.out _ K17
            clear hK K hHeld
            have hHeld := hHeld'
            clear hHeld'
            try simp only [Act.put, List.setIfInBounds_toArray, List.set_cons_zero, List.set_cons_succ]
            refine wpAnyH_take (i := 4) (oi := { dst := some 52, op := Go.Op.binOp Go.BinOp.eql 29 (Go.Operand.tmp 50) (Go.Operand.tmp 51) 29, type := 4, pos := "law.go:122", after := #[{ on := 2, ground := Go.Ground.data }, { on := 3, ground := Go.Ground.data }], guard := none }) (v := ?_) rfl (by kernel_rfl) (by kernel_rfl) (by kernel_rfl) (fun _ _ _ h => h) (Or.inl ⟨by rfl, ?_⟩) (by assumption) ?_
            rotate_left 1
            · (intro w hSw; (try dsimp only at hSw); go_simp; first | done | with_reducible rfl)
            try simp only [Act.put, List.setIfInBounds_toArray, List.set_cons_zero, List.set_cons_succ]
            refine wpAnyH_take (i := 5) (oi := { dst := some 53, op := Go.Op.move (Go.Operand.tmp 52), type := 4, pos := "law.go:122", after := #[{ on := 4, ground := Go.Ground.data }, { on := 2, ground := Go.Ground.chain }], guard := none }) (v := ?_) rfl (by kernel_rfl) (by kernel_rfl) (by kernel_rfl) (fun _ _ _ h => h) (Or.inl ⟨by rfl, ?_⟩) (by assumption) ?_
            rotate_left 1
            · (intro w hSw; (try dsimp only at hSw); go_simp; first | done | with_reducible rfl)
            try simp only [Act.put, List.setIfInBounds_toArray, List.set_cons_zero, List.set_cons_succ]
            refine wpAnyH_take (i := 7) (oi := { dst := some 55, op := Go.Op.move (Go.Operand.tmp 0), type := 22, pos := "law.go:122", after := #[{ on := 5, ground := Go.Ground.guard }], guard := some (5, true) }) (v := ?_) rfl (by kernel_rfl) (by kernel_rfl) (by kernel_rfl) (fun _ _ _ h => h) (Or.inl ⟨by rfl, ?_⟩) (by assumption) ?_
            rotate_left 1
            · (intro w hSw; (try dsimp only at hSw); go_simp; first | done | with_reducible rfl)
            try simp only [Act.put, List.setIfInBounds_toArray, List.set_cons_zero, List.set_cons_succ]
            refine wpAnyH_take (i := 9) (oi := { dst := some 57, op := Go.Op.move (Go.Operand.tmp 0), type := 22, pos := "law.go:122", after := #[{ on := 5, ground := Go.Ground.guard }], guard := some (5, true) }) (v := ?_) rfl (by kernel_rfl) (by kernel_rfl) (by kernel_rfl) (fun _ _ _ h => h) (Or.inl ⟨by rfl, ?_⟩) (by assumption) ?_
            rotate_left 1
            · (intro w hSw; (try dsimp only at hSw); go_simp; first | done | with_reducible rfl)
            try simp only [Act.put, List.setIfInBounds_toArray, List.set_cons_zero, List.set_cons_succ]
            refine wpAnyH_take (i := 13) (oi := { dst := some 61, op := Go.Op.load 29 (Go.Operand.tmp 9), type := 29, pos := "law.go:122", after := #[{ on := 5, ground := Go.Ground.guard }], guard := some (5, true) }) (v := .agg R.toList.toArray) rfl (by kernel_rfl) (by kernel_rfl) (by kernel_rfl) (fun _ _ _ h => h) (yieldsIf_load_mid (by rfl) 29 _ rfl b9 0 rfl R.toList _ (fun _ h => h.2) Tryd.underlying29 rfl HRi.out) (by assumption) ?_
            try simp only [Act.put, List.setIfInBounds_toArray, List.set_cons_zero, List.set_cons_succ]
            refine wpAnyH_ready (rs := [6]) (by kernel_rfl) (by simp) ?_
            refine (AllReadyH.cons (o := { dst := some 54, op := Go.Op.buildSlice 22 0 #[], type := 22, pos := "law.go:122", after := #[{ on := 5, ground := Go.Ground.guard }], guard := some (5, true) }) rfl (fun K hK => ?_) AllReadyH.nil)
            go_simp
            refine hK.out _ _ ?_ (fun hHeld' => ?_)
            · exact HS.out _ (K17.alloc _)
            clear hK K hHeld
            have hHeld := hHeld'
            clear hHeld'
            try simp only [Act.put, List.setIfInBounds_toArray, List.set_cons_zero, List.set_cons_succ]
            refine wpAnyH_ready (rs := [8]) (by kernel_rfl) (by simp) ?_
            refine (AllReadyH.cons (o := { dst := some 56, op := Go.Op.call { callee := Go.Callee.builtin Go.Builtin.append, args := #[Go.Operand.tmp 54, Go.Operand.tmp 55], argTypes := #[22, 22] }, type := 22, pos := "law.go:122", after := #[{ on := 6, ground := Go.Ground.data }, { on := 7, ground := Go.Ground.data }, { on := 5, ground := Go.Ground.chain }, { on := 5, ground := Go.Ground.guard }], guard := some (5, true) }) rfl (fun K hK => ?_) AllReadyH.nil)
            obtain ⟨v56, w19, hr56, hv56, q56, hb56⟩ := OL.onto (new_none w17) (fun g hg => by cases hg; exact Nat.le_refl _) ((Keep.refl (fun _ => False) w17).alloc _) (cap := cap) (HL.out.2 w17 (P15.out.1.trans K17)) hl20 22
            rw [List.nil_append] at hv56
            refine step_append_at _ (by kernel_rfl) (.tmp 54) (.tmp 55) 22 22 rfl _ _ rfl rfl _ _ hr56 ?_
            refine hK.out _ _ ?_ (fun hHeld' => ?_)
            · exact HS.out _ (K17.trans q56)
            clear hK K hHeld
            have hHeld := hHeld'
            clear hHeld'
            try simp only [Act.put, List.setIfInBounds_toArray, List.set_cons_zero, List.set_cons_succ]
            refine wpAnyH_ready (rs := [10]) (by kernel_rfl) (by simp) ?_
            refine (AllReadyH.cons (o := { dst := some 58, op := Go.Op.call { callee := Go.Callee.builtin Go.Builtin.append, args := #[Go.Operand.tmp 56, Go.Operand.tmp 57], argTypes := #[22, 22] }, type := 22, pos := "law.go:122", after := #[{ on := 8, ground := Go.Ground.data }, { on := 9, ground := Go.Ground.data }, { on := 8, ground := Go.Ground.chain }, { on := 5, ground := Go.Ground.guard }], guard := some (5, true) }) rfl (fun K hK => ?_) AllReadyH.nil)
            obtain ⟨v58, w20, hr58, hv58, q58, hb58⟩ := hv56.append L _ cap (HL.out.2 w19 (P15.out.1.trans (K17.trans q56))) hl40 22
            have K20 := K17.trans (q56.next q58 (fun i hi hl => by have := hb56 i hi; omega))
            rw [← RR.out.2.2.2.2.2.2] at hv58
            obtain ⟨a58, c58, rfl, sl58, -⟩ := hv58.form
            refine step_append_at _ (by kernel_rfl) (.tmp 56) (.tmp 57) 22 22 rfl _ _ rfl rfl _ _ hr58 ?_
            refine hK.out _ _ ?_ (fun hHeld' => ?_)
            · exact HS.out _ K20
            clear hK K hHeld
            have hHeld := hHeld'
            clear hHeld'
            try simp only [Act.put, List.setIfInBounds_toArray, List.set_cons_zero, List.set_cons_succ]
            refine wpAnyH_ready (rs := [11]) (by kernel_rfl) (by simp) ?_
            refine (AllReadyH.cons (o := { dst := some 59, op := Go.Op.call { callee := Go.Callee.value (Go.Operand.func 9), args := #[Go.Operand.tmp 58], argTypes := #[22] }, type := 24, pos := "law.go:122", after := #[{ on := 10, ground := Go.Ground.data }, { on := 10, ground := Go.Ground.chain }, { on := 5, ground := Go.Ground.guard }], guard := some (5, true) }) rfl (fun K hK => ?_) AllReadyH.nil)
            go_simp
            go_at_call 9
            refine (HI.out.cut (L := LL) _ (HT.out _ (P15.out.1.trans (And.left hHeld))) RR.out.2.2.2.2.1.1 RR.out.2.2.2.2.1.2 sl58).mono ?_
            rintro e w21 ⟨v21, rfl, hp21, q⟩
            obtain ⟨p21, rfl⟩ := HI.out.form hp21
            refine hK.out _ _ ?_ (fun hHeld' => ?_)
            · exact HS.out _ (Keep.trans (And.left hHeld) q)
            clear hK K hHeld
            have hHeld := hHeld'
            clear hHeld'
            try simp only [Act.put, List.setIfInBounds_toArray, List.set_cons_zero, List.set_cons_succ]
            refine wpAnyH_ready (rs := [12]) (by kernel_rfl) (by simp) ?_
            refine (AllReadyH.cons (o := { dst := some 60, op := Go.Op.call { callee := Go.Callee.value (Go.Operand.func 11), args := #[Go.Operand.tmp 59], argTypes := #[24] }, type := 29, pos := "law.go:122", after := #[{ on := 11, ground := Go.Ground.data }, { on := 11, ground := Go.Ground.chain }, { on := 5, ground := Go.Ground.guard }], guard := some (5, true) }) rfl (fun K hK => ?_) AllReadyH.nil)
            go_simp
            go_at_call 11
            refine (HI.out.remap (HT.out _ (P15.out.1.trans (And.left hHeld))) hp21).mono ?_
            rintro e w22 ⟨rfl, q⟩
            rw [RR.out.2.1]
            have K22 := Keep.trans (And.left hHeld) q
            refine hK.out _ _ ?_ (fun hHeld' => ?_)
            · exact HS.out _ K22
            clear hK K hHeld
            have hHeld := hHeld'
            clear hHeld'
            try simp only [Act.put, List.setIfInBounds_toArray, List.set_cons_zero, List.set_cons_succ]
            refine wpAnyH_take (i := 14) (oi := { dst := some 62, op := Go.Op.binOp Go.BinOp.eql 29 (Go.Operand.tmp 60) (Go.Operand.tmp 61) 29, type := 4, pos := "law.go:122", after := #[{ on := 12, ground := Go.Ground.data }, { on := 13, ground := Go.Ground.data }, { on := 5, ground := Go.Ground.guard }], guard := some (5, true) }) (v := ?_) rfl (by kernel_rfl) (by kernel_rfl) (by kernel_rfl) (fun _ _ _ h => h) (Or.inl ⟨by rfl, ?_⟩) (by assumption) ?_
            rotate_left 1
            · (intro w hSw; (try dsimp only at hSw); go_simp; first | done | with_reducible rfl)
            try simp only [Act.put, List.setIfInBounds_toArray, List.set_cons_zero, List.set_cons_succ]
            refine wpAnyH_take (i := 15) (oi := { dst := some 63, op := Go.Op.pick (Go.Operand.tmp 53) (Go.Operand.tmp 62) (Go.Operand.const (Go.Value.bool false)), type := 4, pos := "law.go:122", after := #[{ on := 5, ground := Go.Ground.data }, { on := 14, ground := Go.Ground.data }], guard := none }) (v := ?_) rfl (by kernel_rfl) (by kernel_rfl) (by kernel_rfl) (fun _ _ _ h => h) (Or.inl ⟨by rfl, ?_⟩) (by assumption) ?_
            rotate_left 1
            · (intro w hSw; (try dsimp only at hSw); go_simp; first | done | with_reducible rfl)
            try simp only [Act.put, List.setIfInBounds_toArray, List.set_cons_zero, List.set_cons_succ]
            refine wpAnyH_take (i := 16) (oi := { dst := some 64, op := Go.Op.move (Go.Operand.tmp 63), type := 4, pos := "law.go:122", after := #[{ on := 15, ground := Go.Ground.data }, { on := 12, ground := Go.Ground.chain }], guard := none }) (v := ?_) rfl (by kernel_rfl) (by kernel_rfl) (by kernel_rfl) (fun _ _ _ h => h) (Or.inl ⟨by rfl, ?_⟩) (by assumption) ?_
            rotate_left 1
            · (intro w hSw; (try dsimp only at hSw); go_simp; first | done | with_reducible rfl)
            try simp only [Act.put, List.setIfInBounds_toArray, List.set_cons_zero, List.set_cons_succ]
            refine wpAnyH_take (i := 17) (oi := { dst := some 65, op := Go.Op.move (Go.Operand.tmp 5), type := 22, pos := "law.go:122", after := #[{ on := 16, ground := Go.Ground.guard }], guard := some (16, true) }) (v := ?_) rfl (by kernel_rfl) (by kernel_rfl) (by kernel_rfl) (fun _ _ _ h => h) (Or.inl ⟨by rfl, ?_⟩) (by assumption) ?_
            rotate_left 1
            · (intro w hSw; (try dsimp only at hSw); go_simp; first | done | with_reducible rfl)
            try simp only [Act.put, List.setIfInBounds_toArray, List.set_cons_zero, List.set_cons_succ]
            refine wpAnyH_take (i := 20) (oi := { dst := some 68, op := Go.Op.load 29 (Go.Operand.tmp 9), type := 29, pos := "law.go:122", after := #[{ on := 16, ground := Go.Ground.guard }], guard := some (16, true) }) (v := .agg R.toList.toArray) rfl (by kernel_rfl) (by kernel_rfl) (by kernel_rfl) (fun _ _ _ h => h) (yieldsIf_load_mid (by rfl) 29 _ rfl b9 0 rfl R.toList _ (fun _ h => h.2) Tryd.underlying29 rfl HRi.out) (by assumption) ?_
            try simp only [Act.put, List.setIfInBounds_toArray, List.set_cons_zero, List.set_cons_succ]
            refine wpAnyH_ready (rs := [18]) (by kernel_rfl) (by simp) ?_
            refine (AllReadyH.cons (o := { dst := some 66, op := Go.Op.call { callee := Go.Callee.value (Go.Operand.func 9), args := #[Go.Operand.tmp 65], argTypes := #[22] }, type := 24, pos := "law.go:122", after := #[{ on := 17, ground := Go.Ground.data }, { on := 16, ground := Go.Ground.chain }, { on := 16, ground := Go.Ground.guard }], guard := some (16, true) }) rfl (fun K hK => ?_) AllReadyH.nil)
            go_simp
            go_at_call 9
            refine (HI.out.cut (L := LN) _ (HT.out _ (P15.out.1.trans (And.left hHeld))) RR.out.2.2.2.2.2.1.1 RR.out.2.2.2.2.2.1.2 (P15.out.2.2.1.keep (And.left hHeld) (fun _ _ h => h))).mono ?_
            rintro e w23 ⟨v23, rfl, hp23, q⟩
            obtain ⟨p23, rfl⟩ := HI.out.form hp23
            refine hK.out _ _ ?_ (fun hHeld' => ?_)
            · exact HS.out _ (Keep.trans (And.left hHeld) q)
            clear hK K hHeld
            have hHeld := hHeld'
            clear hHeld'
            try simp only [Act.put, List.setIfInBounds_toArray, List.set_cons_zero, List.set_cons_succ]
            refine wpAnyH_ready (rs := [19]) (by kernel_rfl) (by simp) ?_
            refine (AllReadyH.cons (o := { dst := some 67, op := Go.Op.call { callee := Go.Callee.value (Go.Operand.func 11), args := #[Go.Operand.tmp 66], argTypes := #[24] }, type := 29, pos := "law.go:122", after := #[{ on := 18, ground := Go.Ground.data }, { on := 18, ground := Go.Ground.chain }, { on := 16, ground := Go.Ground.guard }], guard := some (16, true) }) rfl (fun K hK => ?_) AllReadyH.nil)
            go_simp
            go_at_call 11
            refine (HI.out.remap (HT.out _ (P15.out.1.trans (And.left hHeld))) hp23).mono ?_
            rintro e w24 ⟨rfl, q⟩
            rw [RR.out.2.2.1]
            have K24 := Keep.trans (And.left hHeld) q
            refine hK.out _ _ ?_ (fun hHeld' => ?_)
            · exact HS.out _ K24
            clear hK K hHeld
            have hHeld := hHeld'
            clear hHeld'
            try simp only [Act.put, List.setIfInBounds_toArray, List.set_cons_zero, List.set_cons_succ]
            refine wpAnyH_take (i := 21) (oi := { dst := some 69, op := Go.Op.binOp Go.BinOp.eql 29 (Go.Operand.tmp 67) (Go.Operand.tmp 68) 29, type := 4, pos := "law.go:122", after := #[{ on := 19, ground := Go.Ground.data }, { on := 20, ground := Go.Ground.data }, { on := 16, ground := Go.Ground.guard }], guard := some (16, true) }) (v := ?_) rfl (by kernel_rfl) (by kernel_rfl) (by kernel_rfl) (fun _ _ _ h => h) (Or.inl ⟨by rfl, ?_⟩) (by assumption) ?_
            rotate_left 1
            · (intro w hSw; (try dsimp only at hSw); go_simp; first | done | with_reducible rfl)
            try simp only [Act.put, List.setIfInBounds_toArray, List.set_cons_zero, List.set_cons_succ]
            refine wpAnyH_take (i := 22) (oi := { dst := some 70, op := Go.Op.pick (Go.Operand.tmp 64) (Go.Operand.tmp 69) (Go.Operand.const (Go.Value.bool false)), type := 4, pos := "law.go:122", after := #[{ on := 16, ground := Go.Ground.data }, { on := 21, ground := Go.Ground.data }], guard := none }) (v := ?_) rfl (by kernel_rfl) (by kernel_rfl) (by kernel_rfl) (fun _ _ _ h => h) (Or.inl ⟨by rfl, ?_⟩) (by assumption) ?_
            rotate_left 1
            · (intro w hSw; (try dsimp only at hSw); go_simp; first | done | with_reducible rfl)
            try simp only [Act.put, List.setIfInBounds_toArray, List.set_cons_zero, List.set_cons_succ]
            refine wpAnyH_take (i := 23) (oi := { dst := some 2, op := Go.Op.assign (Go.Operand.tmp 70), type := 4, pos := "law.go:122", after := #[{ on := 22, ground := Go.Ground.data }, { on := 19, ground := Go.Ground.chain }, { on := 0, ground := Go.Ground.phase }, { on := 1, ground := Go.Ground.phase }, { on := 2, ground := Go.Ground.phase }, { on := 3, ground := Go.Ground.phase }, { on := 4, ground := Go.Ground.phase }, { on := 5, ground := Go.Ground.phase }, { on := 6, ground := Go.Ground.phase }, { on := 7, ground := Go.Ground.phase }, { on := 8, ground := Go.Ground.phase }, { on := 9, ground := Go.Ground.phase }, { on := 10, ground := Go.Ground.phase }, { on := 11, ground := Go.Ground.phase }, { on := 12, ground := Go.Ground.phase }, { on := 13, ground := Go.Ground.phase }, { on := 14, ground := Go.Ground.phase }, { on := 15, ground := Go.Ground.phase }, { on := 16, ground := Go.Ground.phase }, { on := 17, ground := Go.Ground.phase }, { on := 18, ground := Go.Ground.phase }, { on := 19, ground := Go.Ground.phase }, { on := 20, ground := Go.Ground.phase }, { on := 21, ground := Go.Ground.phase }, { on := 22, ground := Go.Ground.phase }], guard := none }) (v := ?_) rfl (by kernel_rfl) (by kernel_rfl) (by kernel_rfl) (fun _ _ _ h => h) (Or.inl ⟨by rfl, ?_⟩) (by assumption) ?_
            rotate_left 1
            · (intro w hSw; (try dsimp only at hSw); go_simp; first | done | with_reducible rfl)
            try simp only [Act.put, List.setIfInBounds_toArray, List.set_cons_zero, List.set_cons_succ]
            refine wpAnyH_done (by kernel_rfl) ?_ _
            refine NoPanic.normal ?_
            rotate_left 1
            have HK := Lib.hid (P15.out.1.trans hHeld.1)
            clear hHeld
            go_wp2_with fail
            go_ret
            exact ⟨rfl, HK.out⟩
  · have h30' : (20 : Int) < L.length := by omega
    clear h30
    go_wp2_with fail
    refine (awake_any HI.out w1 (HT.out _ P1.out)).mono ?_
    rintro e w2 ⟨rfl, q2⟩
    have P2 := Lib.hid (P1.out.trans q2)
    clear q2 P1
    go_wp2_with fail
    go_ret
    exact ⟨rfl, P2.out⟩
end Go.Proofs.YtidfjeliofgpmaaDoor.Parts

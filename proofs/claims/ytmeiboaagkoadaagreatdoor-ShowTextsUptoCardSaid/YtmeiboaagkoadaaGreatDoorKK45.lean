/- The code's Rules (layer 8). -/
import Derived.Test.YtmeiboaagkoadaaGreatDoorKK39
import Derived.Test.YtmeiboaagkoadaaGreatDoorKK26
import Derived.Test.YtmeiboaagkoadaaGreatDoorKK12
import Derived.Test.YtmeiboaagkoadaaGreatDoorKK40
namespace Go.Proofs.YtmeiboaagkoadaaGreatDoor.P08
open Go.RowKit Go.Proofs.YtmeiboaagkoadaaGreatDoor.Base Go.Proofs.YtmeiboaagkoadaaGreatDoor.P07
open Go.Proofs.YtmeiboaagkoadaaGreatDoor.Sets (ST)
open Go.Proofs.YtmeiboaagkoadaaGreatDoor.Ref06 (LN OLr LS splitR IsSplitC lcells)

/-- The rules of a file's lines; a place where one is wrong. -/
def rulesL (F : Nat) : List LN → List RU → Int ⊕ List RU
  | [], out => .inr out
  | r :: L, out => match parse F r.text with
    | .inl p => .inl (r.place + p)
    | .inr t => rulesL F L (out ++ [⟨r.name, t⟩])
def rulesR (F : Nat) (l : List UInt8) : Int ⊕ List RU := match splitR l with
  | .inl b => .inl b
  | .inr L => rulesL F L []
/-- What Rules hands back. -/
def RulesV (R : Int ⊕ List RU) (w : World) (e : Ending) (w' : World) : Prop := match R with
  | .inl p => e = .returned (.tuple #[.slice none 0 0, .int .i64 p, .int .i64 6])
  | .inr L => ∃ v, e = .returned (.tuple #[v, .int .i64 0, .int .i64 0]) ∧ OU w' (fun k => w.heap.size ≤ k) v L
theorem OU.mono {w : World} {ok ok' : Nat → Prop} {v : Value} {L : List RU} (hk : ∀ b, ok b → ok' b) (h : OU w ok v L) : OU w ok' v L := by
  obtain ⟨X, ⟨h1, h2, h3⟩, h4⟩ := h
  exact ⟨X, ⟨h1, fun g hg => hk g (h2 g hg), fun x hx => ⟨(h3 x hx).1, (h3 x hx).2.mono (fun k h => ⟨hk k h.1, h.2⟩)⟩⟩, h4⟩
theorem OU.lt {w : World} {ok : Nat → Prop} {v : Value} {L : List RU} (h : OU w ok v L) {g : Nat} (hg : v.ownBlock = some g) : g < w.heap.size := by
  obtain ⟨X, ⟨h1, -, -⟩, -⟩ := h
  rcases h1.2 with ⟨rfl, _⟩ | ⟨g', cap, cur, rfl, hb, hc, r⟩
  · cases hg
  · have : At w g' 38 cur := hc
    injection hg with hg
    subst hg
    exact this.lt
theorem rulesL_drop {F : Nat} {L : List LN} {k : Nat} {r : LN} (h : L[k]? = some r) (out : List RU) : rulesL F (L.drop k) out = match parse F r.text with
    | .inl p => .inl (r.place + p)
    | .inr t => rulesL F (L.drop (k + 1)) (out ++ [⟨r.name, t⟩]) := by
  have hk : k < L.length := (List.getElem?_eq_some_iff.1 h).1
  have e : L[k] = r := (List.getElem?_eq_some_iff.1 h).2
  rw [List.drop_eq_getElem_cons hk, rulesL, e]

set_option maxRecDepth 100000 in
set_option maxHeartbeats 4000000 in
theorem crules_any (F : Nat) (hF : 1010 ≤ F) (l : List UInt8) (hbig : l.length ≤ 9223372036854775807) (w : World) :
    Calls Tryz.prog 15 #[Bytes.str l] w fun e w' => RulesV (rulesR F l) w e w' ∧ Keep (fun _ => False) w w' := by
  have hsp := Ref06.split_any l hbig w
  obtain ⟨R, hR⟩ : ∃ R, rulesR F l = R := ⟨_, rfl⟩
  rw [hR]
  unfold rulesR at hR
  have hpl : ∀ out, splitR l = .inr out → _ := fun out h => Ref06.placed_split h
  obtain ⟨SR, hSR⟩ : ∃ S, splitR l = S := ⟨_, rfl⟩
  rw [hSR] at hsp hR hpl
  have HS := Lib.hid hsp
  clear hsp hSR hbig
  have hmk : str l = .string ⟨l.toArray⟩ := rfl
  go_enter Tryz.func15, Tryz.ntmps15
  go_wp2_with fail
  refine HS.out.mono ?_
  rintro e w1 ⟨v, n, s, rfl, q1, h⟩
  rcases h with ⟨b, rfl, rfl, rfl, rfl⟩ | ⟨L, rfl, hv, rfl, rfl⟩
  · have HR := Lib.hid (And.intro hR q1)
    clear hR q1 hpl
    go_wp2_with fail
    refine bodyPost_ret (v := .tuple #[.slice none 0 0, .int .i64 b, .int .i64 6]) (by simp [results, Tryz.results15, go_sem]) rfl ?_
    rw [← HR.out.1]
    exact ⟨rfl, HR.out.2⟩
  · obtain ⟨a, cap, rfl, hle, hLS, -⟩ := hv.form2
    obtain ⟨hl1000, hl8, hpl⟩ := hpl L rfl
    have H1 := Lib.hid (And.intro hLS (And.intro hR (And.intro hpl (And.intro q1 hl1000))))
    clear hLS hR hpl q1 hv hle
    go_wp2_with fail
    go_loopg [2, 7, 8, 9, 10, 23] L.length (fun gg v s7 s8 s9 s10 i wr => ∃ (k : Nat) (out : List RU), i = .int .i64 k ∧ k + gg = L.length ∧ rulesL F (L.drop k) out = R ∧ OU wr (fun b => w1.heap.size ≤ b) v out ∧ out.length ≤ k ∧ Keep (fun _ => False) w1 wr)
    case atStart => exact ⟨0, [], rfl, by omega, by rw [List.drop_zero]; exact H1.out.2.1, OU.nil _ _, Nat.le_refl _, Keep.refl _ _⟩
    case round =>
      obtain ⟨k, out, rfl, hk, hRk, hv, hol, hq⟩ := hrel
      by_cases hlt : k < L.length
      · have hlt' : (k : Int) < L.length := by omega
        have i0 : (0 : Int) ≤ k := by omega
        obtain ⟨r, hr⟩ : ∃ r, L[k]? = some r := ⟨L[k], List.getElem?_eq_getElem hlt⟩
        have hLw := H1.out.1.keep hq (fun _ _ h => h)
        obtain ⟨bl, off, rfl, hbl, c0, c1, c2⟩ := hLw.get hr
        obtain ⟨p, hp, hp2, -⟩ := H1.out.2.2.1 r (List.mem_of_getElem? hr)
        have hpar := fun W => regex_any F r.text (by omega) (by omega) W
        rw [rulesL_drop hr] at hRk
        have hwi : ∀ x, parse F r.text = .inl x → x ≤ r.text.length := fun x h => wrong_in h
        obtain ⟨PA, hPA⟩ : ∃ P, parse F r.text = P := ⟨_, rfl⟩
        rw [hPA] at hRk hpar hwi
        have a1 := At.new wr (lcells r) 57
        have qa := hq.alloc (.cells (lcells r) 57)
        have hva := hv.keepF ((Keep.refl (fun _ => False) wr).alloc (.cells (lcells r) 57))
        have H2 := Lib.hid (And.intro hpar (And.intro hRk (And.intro a1 (And.intro qa (And.intro hva (And.intro hol (And.intro hwi (And.intro hp (And.intro hp2 hq.size)))))))))
        clear hpar hRk a1 qa hva hol hwi hp hp2 hv hLw hr hPA hq
        go_upto_region 7 with fail
        generalize (wr.alloc (.cells (lcells r) 57)) = W1 at *
        have hn1 : w1.heap.size ≤ wr.heap.size := H2.out.2.2.2.2.2.2.2.2.2
        generalize wr.heap.size = n1 at *
        have k0 : W1.cell? ⟨n1, 0, none⟩ = some (Bytes.str r.name) := H2.out.2.2.1.cell (o := 0) rfl
        have k1 : W1.cell? ⟨n1, 1, none⟩ = some (Bytes.str r.text) := H2.out.2.2.1.cell (o := 1) rfl
        have k2 : W1.cell? ⟨n1, 2, none⟩ = some (.int .i64 r.place) := H2.out.2.2.1.cell (o := 2) rfl
        clear c0 c1 c2
        go_wp2_with fail
        refine (H2.out.1 W1).mono ?_
        rintro e w2 ⟨hP, q2⟩
        cases PA with
        | inl x =>
          have hP' : e = .returned (.tuple #[.agg nzeros, .int .i64 x, .int .i64 6]) := hP
          subst hP'
          have hxr := H2.out.2.2.2.2.2.2.1 x rfl
          have q3 := q2.alloc (.cells nzeros 27)
          have A3 := H2.out.2.2.1.keep q3 (fun h => h)
          have j2 : (w2.alloc (.cells nzeros 27)).cell? ⟨n1, 2, none⟩ = some (.int .i64 r.place) := A3.cell (o := 2) rfl
          rw [H2.out.2.2.2.2.2.2.2.1] at j2
          have hw : IntKind.i64.wrap ((p : Int) + x) = (p : Int) + x := by
            have := H2.out.2.2.2.2.2.2.2.2.1
            have := H1.out.2.2.2.2
            rw [IntKind.wrap_i64]
            omega
          have H3 := Lib.hid (And.intro (show Sum.inl (r.place + (x : Int)) = R from H2.out.2.1) (H1.out.2.2.2.1.trans (H2.out.2.2.2.1.trans q3)))
          clear hP q2 q3 A3 hxr k0 k1 k2
          go_upto_region 8 with fail
          generalize (w2.alloc (.cells nzeros 27)) = W3 at *
          go_wp2_with fail
          go_quiet (fail)
          go_wp2_with fail
          refine bodyPost_ret (v := .tuple #[.slice none 0 0, .int .i64 ((p : Int) + x), .int .i64 6]) (by simp [results, Tryz.results15, go_sem]) rfl ?_
          rw [← H3.out.1]
          refine ⟨?_, H3.out.2.drewN _⟩
          rw [H2.out.2.2.2.2.2.2.2.1]
          rfl
        | inr t =>
          obtain ⟨nv, hnv, aT, cT, rfl, hleT, hLT⟩ := hP
          subst hnv
          have qn := (Keep.refl (fun _ => False) w2).alloc (.cells (ncells t aT cT) 27)
          have q3 := q2.trans qn
          have A3 := H2.out.2.2.1.keep q3 (fun h => h)
          have N3 := At.new w2 (ncells t aT cT) 27
          have V1 := H2.out.2.2.2.2.1
          have V3 := V1.keepF q3
          have L3 : Lie (w2.alloc (.cells (ncells t aT cT) 27)) (fun k => w1.heap.size ≤ k ∧ u2.ownBlock ≠ some k) aT t.subs := (hLT.mono (fun k hk => ⟨Nat.le_trans H2.out.2.2.2.1.size hk, fun e => by have := V1.lt e; omega⟩)).keepF qn
          have H3 := Lib.hid (And.intro (show rulesL F (L.drop (k + 1)) (out ++ [⟨r.name, t⟩]) = R from H2.out.2.1) (And.intro (H2.out.2.2.2.1.trans q3) (And.intro A3 (And.intro N3 (And.intro V3 (And.intro L3 hleT))))))
          clear q2 qn q3 A3 N3 V1 V3 L3 hLT hleT k0 k1 k2
          go_upto_region 8 with fail
          generalize (w2.alloc (.cells (ncells t aT cT) 27)) = W3 at *
          generalize w2.heap.size = n3 at *
          have k0 : W3.cell? ⟨n1, 0, none⟩ = some (Bytes.str r.name) := H3.out.2.2.1.cell (o := 0) rfl
          obtain ⟨⟨y0, y1, y2, y3, y4, y5, y6, y7⟩, -⟩ := cells8 H3.out.2.2.2.1
          obtain ⟨v', w4, hrun, hv4, q4, hb4⟩ := H3.out.2.2.2.2.1.push ⟨r.name, t⟩ aT cT H3.out.2.2.2.2.2.2 H3.out.2.2.2.2.2.1 (by have := H2.out.2.2.2.2.2.1; omega) (fun g hg => Nat.le_trans H3.out.2.1.size hg) 39
          have hq4 : Keep (fun _ => False) w1 w4 := H3.out.2.1.next q4 (fun i hi hl => by
            obtain ⟨X, ⟨-, h2, -⟩, -⟩ := H3.out.2.2.2.2.1
            have := h2 i hi
            omega)
          have H4 := Lib.hid (And.intro hv4 hq4)
          clear hv4 hq4 q4 hb4
          go_wp2_with (at_builtin; refine Lib.wpList_append_run _ rfl _ _ _ _ rfl _ _ rfl rfl _ _ hrun ?_)
          clear hrun
          go_wp2_with fail
          go_roundg (L.length - (k + 1))
          case measure => omega
          case rel => exact ⟨k + 1, out ++ [⟨r.name, t⟩], by go_num, by omega, H3.out.1, H4.out.1, by have := H2.out.2.2.2.2.2.1; simp; omega, H4.out.2⟩
      · have hke : k = L.length := by omega
        subst hke
        rw [List.drop_length, rulesL] at hRk
        have H2 := Lib.hid (And.intro hRk (And.intro hv hq))
        clear hRk hv hq
        go_wp2_with fail
        refine bodyPost_ret (v := .tuple #[u2, .int .i64 0, .int .i64 0]) (by simp [results, Tryz.results15, go_sem]) rfl ?_
        rw [← H2.out.1]
        exact ⟨⟨_, rfl, H2.out.2.1.mono (fun b hb => Nat.le_trans H1.out.2.2.2.1.size hb)⟩, H1.out.2.2.2.1.trans H2.out.2.2⟩
end Go.Proofs.YtmeiboaagkoadaaGreatDoor.P08

/-
  The law BuildNests.
-/
import Derived.Test.YtinnkjoboeihmaaXc
namespace Go.Proofs.Ytinnkjoboeihmaa
open Go.RowKit
set_option linter.unusedVariables false
set_option linter.unusedSimpArgs false
set_option maxRecDepth 4000

set_option maxHeartbeats 6400000 in
theorem lawNests (A : Option Addr) (n c : Nat) (ts : List Tg) (B : Option Addr) (m0 d : Nat) (b0 : List UInt8) (w : World) (h : Tgs w A n ts) (h0 : Bs w B m0 b0) (hd : m0 ≤ d) :
    Calls Try.prog 7 #[.slice A n c, .slice B m0 d] w fun e w' => e = .returned (.bool true) ∧ Below w.heap.size w w' := by
  have h1 : Bs w B (min m0 100) (b0.take (min m0 100)) := h0.take (by omega)
  obtain ⟨m, hm⟩ : ∃ m, m = min m0 100 := ⟨_, rfl⟩
  have hmin : min (m0 : Int) 100 = (m : Int) := by omega
  have hmin2 : (if (100 : Int) < (m0 : Int) then (100 : Int) else (m0 : Int)) = (m : Int) := by split <;> omega
  have m1 : (m : Int) ≤ (d : Int) := by omega
  have hmd : m ≤ d := by omega
  have hmb : m ≤ 100 := by omega
  rw [← hm] at h1
  generalize b0.take m = bl at *
  have hbl : bl.length ≤ 100 := by have := h1.len; omega
  have hln := h.1
  have HT := Lib.hid h
  have HW := Lib.hid h1
  obtain ⟨i0, hi, hz0, hz1, hz2⟩ := info_parts tag_info
  clear hm h h0 h1
  go_enter Try.func7, Try.ntmps7
  go_wp2_with fail
  refine (bdNew _).mono ?_
  rintro e w1 ⟨rfl, hsh, hb1⟩
  have hN0 : NestS w w.heap.size [] (.slice none 0 0) w1 := ⟨_, _, _, hsh, rfl, by simp, World.ownsRow_nil _ _ _ _, by simp [Value.ownBlock], hb1⟩
  have HN0 := Lib.hid hN0
  clear hsh hb1 hN0
  go_wp2
  go_loopw [6, 7] (fun v i wr => ∃ k : Nat, k ≤ n ∧ k ≤ 20 ∧ i = .int .i64 (k : Int) ∧ NestS w w.heap.size (goodT ts k) v wr) (fun _ i _ => 20 - (intOf i).toNat)
  case atStart => exact ⟨0, Nat.zero_le _, by omega, rfl, HN0.out⟩
  case round =>
    obtain ⟨k, hk, hk20, rfl, hN⟩ := hrel
    by_cases hlt : k < n ∧ k < 20
    · obtain ⟨hlt1, hlt2⟩ := hlt
      obtain ⟨t, htk⟩ : ∃ t, ts[k]? = some t := ⟨_, List.getElem?_eq_getElem (by omega)⟩
      obtain ⟨bb, oo, rfl, c0, c1, c2⟩ := HT.out.2 k t htk
      have hbel : Below w.heap.size w wr := by obtain ⟨_, _, _, _, _, _, _, _, hb⟩ := hN; exact hb
      have hg := Lib.hid (goodT_succ htk)
      have hgl := goodT_len ts k
      have d0 := (hbel.cell (World.block_lt_of_cell? w _ c0)).trans c0
      have d1 := (hbel.cell (World.block_lt_of_cell? w _ c1)).trans c1
      have d2 := (hbel.cell (World.block_lt_of_cell? w _ c2)).trans c2
      have CEL : Hid (∀ W, Below w.heap.size w W → W.cell? ⟨bb, oo + k * 3, none⟩ = some (.int .i64 t.cls) ∧ W.cell? ⟨bb, oo + k * 3 + 1, none⟩ = some (.int .i64 t.num) ∧ W.cell? ⟨bb, oo + k * 3 + 2, none⟩ = some (.bool t.made)) := fun W hW => ⟨(hW.cell (World.block_lt_of_cell? w _ c0)).trans c0, (hW.cell (World.block_lt_of_cell? w _ c1)).trans c1, (hW.cell (World.block_lt_of_cell? w _ c2)).trans c2⟩
      have e1 : (k : Int) < (n : Int) := by omega
      have e2 : (k : Int) < 20 := by omega
      have HN := Lib.hid hN
      clear hN c0 c1 c2 htk
      go_wp2_with fail
      refine (refRight t _).mono ?_
      rintro e w2 ⟨rfl, hb2⟩
      have HN2 := Lib.hid (HN.out.below hb2)
      have HB2 := Lib.hid (hbel.trans (hb2.mono hbel.size))
      clear hb2 d0 d1 d2 HN hbel
      obtain ⟨d0, d1, d2⟩ := CEL.out _ HB2.out
      cases hr : t.rightB with
      | false =>
        have hg2 : Hid (goodT ts (k + 1) = goodT ts k) := by unfold Hid; rw [hg.out, hr]; simp
        go_wp2
        go_roundw
        case rel => exact ⟨k + 1, by omega, by omega, by go_num, by rw [hg2.out]; exact HN2.out⟩
        case measure => simp [intOf]; omega
      | true =>
        have hg2 : Hid (goodT ts (k + 1) = goodT ts k ++ [t]) := by unfold Hid; rw [hg.out, hr]; simp
        generalize goodT ts k = gs at *
        obtain ⟨fp, F, Fs, q1, q2, q3, q4, q5, q6⟩ := HN2.out
        obtain ⟨Av, cv, rfl, hcv⟩ := row_form q4
        have Q4 := Lib.hid q4
        have HA3 := Lib.hid (HN2.out.below (below_alloc1 w2 (.cells #[.int .i64 t.cls, .int .i64 t.num, .bool t.made] 29)))
        have hs2 := q6.size
        clear q1 q2 q3 q4 q5 q6
        go_wp2_with (at_builtin; refine wpList_appendF rfl _ _ 78 rfl w.heap.size 29 i0 (.agg #[.int .i64 0, .int .i64 0, .bool false]) 3 24 Try.underlying78 hi hz0 hz1 hz2 rfl (by omega) _ gs.length (tCs gs) rfl (World.ownsRow.alloc Q4.out _) _ 1 _ [.int .i64 t.cls, .int .i64 t.num, .bool t.made] rfl rfl (news_new _ _ _) ?ab1 ?ab2 ?ab3 ?ab4 ?_)
        case ab1 => intro u hu; simp at hu; rcases hu with rfl | rfl | rfl <;> rfl
        case ab2 => unfold maxLen; omega
        case ab3 => omega
        case ab4 => simp; omega
        intro v9 w3 hrow3 hgr3 hv3
        have hs9 : (w2.alloc (.cells #[.int .i64 t.cls, .int .i64 t.num, .bool t.made] 29)).heap.size = w2.heap.size + 1 := by simp
        obtain ⟨fp, F, Fs, q1, q2, q3, q4, q5, q6⟩ := NestS.tag HA3.out hrow3 hgr3 (by rw [hs9]; exact hv3)
        obtain ⟨A9, c9, rfl, hc9⟩ := row_form hrow3
        have Q1 := Lib.hid q1
        have Q2 := Lib.hid q2
        have Q3 := Lib.hid q3
        have Q4' := Lib.hid q4
        have Q5 := Lib.hid q5
        have Q6 := Lib.hid q6
        have hq2 := full_ne q2
        clear q1 q2 q3 q4 q5 q6 hrow3 hgr3 hv3 d0 d1 d2 hs9 hs2 HA3 Q4 HN2 HB2
        obtain ⟨d0, d1, d2⟩ := CEL.out _ Q6.out
        go_wp2_with fail
        refine (lw2To t _).mono ?_
        rintro e w4 ⟨rfl, hb4⟩
        have R1 := Lib.hid (Q1.out.below hb4)
        have R4 := Lib.hid (row_below Q4'.out hb4)
        have R6 := Lib.hid (Q6.out.trans (hb4.mono Q6.out.size))
        clear hb4 d0 d1 d2
        go_wp2_with fail
        refine (bdOpen w.heap.size fp F Fs 0 t _ R1.out (by omega)).mono ?_
        rintro e w5 ⟨rfl, hok⟩
        have HN5 := Lib.hid (NestS.opened Q2.out Q3.out R4.out Q5.out R6.out hok)
        clear hok
        go_wp2
        go_roundw
        case rel => exact ⟨k + 1, by omega, by omega, by go_num, by rw [hg2.out]; exact HN5.out⟩
        case measure => simp [intOf]; omega
    · have hgl := goodT_len ts k
      have hGl : Hid ((goodT ts k).length ≤ 20) := by unfold Hid; omega
      have hgr := Lib.hid (goodT_right ts k)
      generalize goodT ts k = gs at *
      obtain ⟨fp, F, Fs, q1, q2, q3, q4, q5, q6⟩ := hN
      obtain ⟨Av, cv, rfl, hcv⟩ := row_form q4
      have hq2 := full_ne q2
      have q7 := q1.lt
      have Q1 := Lib.hid q1
      have Q2 := Lib.hid q2
      have Q3 := Lib.hid q3
      have Q4 := Lib.hid q4
      have Q5 := Lib.hid q5
      have Q6 := Lib.hid q6
      have Q7 := Lib.hid q7
      clear q1 q2 q3 q4 q5 q6 q7
      have hk2 : (¬ (k : Int) < (n : Int) ∧ ¬ k < n) ∨ ((k : Int) < (n : Int) ∧ ¬ (k : Int) < 20) := by omega
      have hPut := Lib.hid (fun Ax W (hx : Sh W w.heap.size fp F Fs 0) (hr : ∀ W', OnlyF fp W W' → Bss W' Ax 1 [bl]) => bdPut w.heap.size fp F Fs 0 Ax 1 1 [bl] W hx hr (by omega) (by
        have hFb : F.b = [] := by
          have h9 : F ∈ fullF gs := by rw [← Q2.out]; simp
          simp [fullF, fr0, fT] at h9
          rcases h9 with rfl | ⟨t, _, rfl⟩ <;> rfl
        simp [hFb]; omega))
      rcases hk2 with ⟨g, g'⟩ | ⟨g, g'⟩
      all_goals
        go_upto_region 10 with fail
        go_wp2_with fail
        refine (bdDepth w.heap.size fp F Fs 0 _ Q1.out).mono ?_
        rintro e w6 ⟨rfl, hq6⟩
        have hb6 : Below wr.heap.size wr w6 := hq6.below
        have R1 := Lib.hid (Q1.out.below hb6)
        have R4 := Lib.hid (row_below Q4.out hb6)
        have R6 := Lib.hid (Q6.out.trans (hb6.mono Q6.out.size))
        have hfl : ((Fs.length : Int) != (gs.length : Int)) = false := by rw [hq2]; simp
        clear hb6 hq6 g g'
        go_wp2_with fail
        have hbss : ∀ W', OnlyF fp (w6.alloc (.cells #[.slice B m d] 41)) W' → Bss W' (some ⟨w6.heap.size, 0, none⟩) 1 [bl] := by
          intro W' hO
          have hbw := hO.below (R6.out.alloc R6.out.size _) (by have := R6.out.size; simp; omega) Q3.out
          refine ⟨rfl, fun i l hl => ?_⟩
          match i, hl with
          | 0, hl =>
            simp at hl
            subst hl
            have hnew := heap_alloc_new w6 (.cells #[.slice B m d] 41)
            have hblk := hO.block w6.heap.size (by simp) (fun hm => by have := R1.out.lt _ hm; omega)
            exact ⟨_, _, _, _, _, rfl, by rw [Nat.zero_add, blk_cell (hblk.trans hnew)]; rfl, HW.out.below hbw, hmd⟩
        refine (hPut.out _ _ (R1.out.below (below_alloc1 w6 _)) hbss).mono ?_
        rintro e w7 ⟨rfl, hok⟩
        have hNT := NestS.put Q2.out Q3.out (World.ownsRow.alloc R4.out (.cells #[.slice B m d] 41)) Q5.out (R6.out.alloc R6.out.size (.cells #[.slice B m d] 41)) hok
        have HNT := Lib.hid hNT
        clear hok hNT hbss hfl R1 R4 R6 hPut Q1 Q2 Q3 Q4 Q5 Q6 Q7
        go_wp2
        go_loopw [8] (fun v wr2 => ∃ (j : Nat) (us vs : List Tg), v = .int .i64 (j : Int) ∧ gs = us ++ vs ∧ vs.length = j ∧ NestT w w.heap.size us vs bl (.slice Av gs.length cv) wr2) (fun v _ => gs.length - (intOf v).toNat)
        case atStart => exact ⟨0, gs, [], rfl, by simp, rfl, HNT.out⟩
        case round =>
          obtain ⟨j, us, vs, rfl, hgs, hj, hT⟩ := hrel
          have hlen : gs.length = us.length + vs.length := by rw [hgs, List.length_append]
          by_cases hlt : j < gs.length
          · have e4 : (j : Int) < (gs.length : Int) := by omega
            rcases List.eq_nil_or_concat us with h9 | ⟨us', t, h9⟩
            · subst h9; simp at hlen; omega
            · rw [List.concat_eq_append] at h9
              have hrt : t.rightB = true := hgr.out t (by rw [hgs, h9]; simp)
              have hnl := nestB_le vs bl
              have hus : us.length ≤ 20 := by omega
              have hSh := Lib.hid (NestT.shut (us := us') (t := t) (vs := vs) (by rw [← h9]; exact hT) hrt (by omega) (by rw [h9] at hus; simp at hus; omega))
              have HG : Hid (gs = us' ++ (t :: vs)) := by unfold Hid; rw [hgs, h9]; simp
              have HJ := Lib.hid hj
              clear hT hgs h9 hnl hlen hj hus
              go_wp2_with fail
              refine hSh.out.mono ?_
              rintro e w8 ⟨rfl, hT2⟩
              have HT2 := Lib.hid hT2
              clear hT2 hSh
              go_wp2
              go_roundw
              case rel => first | exact ⟨j + 1, us', t :: vs, by go_num, HG.out, by simp [HJ.out], HT2.out⟩ | ((repeat apply Exists.intro); exact ⟨⟨j + 1, us', t :: vs, by go_num, HG.out, by simp [HJ.out], HT2.out⟩, rfl⟩)
              case measure => simp [intOf]; omega
          · have hus : us = [] := List.eq_nil_of_length_eq_zero (by omega)
            subst hus
            simp at hgs
            subst hgs
            subst hj
            clear hlen
            have hnl := nestB_le gs bl
            obtain ⟨q4, q6⟩ : wr.ownsRow w.heap.size 29 3 (.slice Av gs.length cv) gs.length (tCs gs) ∧ Below w.heap.size w wr := by
              obtain ⟨_, _, _, _, _, _, _, h4, _, h6⟩ := hT
              exact ⟨by simpa using h4, h6⟩
            have hBy := Lib.hid (nest_bytes hT (by omega))
            have Q4 := Lib.hid q4
            have Q6 := Lib.hid q6
            clear q4 q6 hT
            go_wp2_with fail
            refine hBy.out.mono ?_
            rintro e w9 ⟨⟨X, y, z, rfl, hx⟩, hb9⟩
            have HX := Lib.hid hx
            have Q4' := Lib.hid (row_below Q4.out hb9)
            have Q6' := Lib.hid (Q6.out.trans (hb9.mono Q6.out.size))
            clear hx hb9 hBy Q4 Q6
            go_wp2_with fail
            refine (known8 _).mono ?_
            rintro e w10 ⟨rfl, hb10⟩
            have HX2 := Lib.hid (HX.out.below hb10)
            have Q4 := Lib.hid (row_below Q4'.out hb10)
            have Q6 := Lib.hid (Q6'.out.trans (hb10.mono Q6'.out.size))
            clear hb10 HX Q4' Q6'
            clear hgl hq2
            have hg20 : gs.length ≤ 20 := hGl.out
            go_wp2
            go_loopw [9, 11] (fun v i wr => ∃ (q : Nat) (X' : Option Addr) (y' z' : Nat), v = .slice X' y' z' ∧ i = .int .i64 (q : Int) ∧ q ≤ gs.length ∧ Bs wr X' y' (nestB (gs.drop q) bl) ∧ wr.ownsRow w.heap.size 29 3 (.slice Av gs.length cv) gs.length (tCs gs) ∧ Below w.heap.size w wr) (fun _ i _ => gs.length - (intOf i).toNat)
            case atStart => exact ⟨0, X, y, z, rfl, rfl, Nat.zero_le _, by simpa using HX2.out, Q4.out, Q6.out⟩
            case round =>
              obtain ⟨q, X', y', z', rfl, rfl, hq, hbs, hrow, hbe⟩ := hrel
              by_cases hlt : q < gs.length
              · obtain ⟨t, htq⟩ : ∃ t, gs[q]? = some t := ⟨_, List.getElem?_eq_getElem hlt⟩
                obtain ⟨A', c', he', _, htg⟩ := tgs_own hrow rfl
                obtain ⟨bb, oo, hA', c0, c1, c2⟩ := htg.2 q t htq
                have hdr : Hid (gs.drop q = t :: gs.drop (q + 1)) := by
                  unfold Hid
                  rw [List.drop_eq_getElem_cons hlt]
                  congr 1
                  rw [List.getElem?_eq_getElem hlt] at htq
                  exact Option.some.inj htq
                have hrt : Hid (t.rightB = true) := hgr.out t (List.mem_of_getElem? htq)
                have hnl2 := nestB_le (gs.drop (q + 1)) bl
                have hdl : (gs.drop (q + 1)).length ≤ 20 := by simp; omega
                have hln2 : Hid ((nestB (gs.drop (q + 1)) bl).length ≤ 1000) := by unfold Hid; omega
                simp only [Value.slice.injEq] at he'
                obtain ⟨rfl, _, rfl⟩ := he'
                subst hA'
                have HBS : Hid (Bs wr X' y' (wrapB t (nestB (gs.drop (q + 1)) bl))) := by unfold Hid; rw [hdr.out] at hbs; exact hbs
                have HROW := Lib.hid hrow
                have HBE := Lib.hid hbe
                have e4 : (q : Int) < (gs.length : Int) := by omega
                clear hbs hrow hbe htg hnl2 hdl htq
                go_wp2_with fail
                refine (lw2To t _).mono ?_
                rintro e wa ⟨rfl, hba⟩
                have HBa := Lib.hid (HBS.out.below hba)
                have HRa := Lib.hid (row_below HROW.out hba)
                have HEa := Lib.hid (HBE.out.trans (hba.mono HBE.out.size))
                clear hba c0 c1 c2 HBS HROW HBE
                go_wp2_with fail
                refine (nest_alone X' y' z' (nestB (gs.drop (q + 1)) bl) t _ HBa.out hrt.out (by have := hln2.out; omega)).mono ?_
                rintro e wb ⟨⟨g2, s2, rfl, hcur, hg2⟩, hbb⟩
                have HCur := Lib.hid hcur
                have HG2 := Lib.hid hg2
                have HBb := Lib.hid hbb
                clear hcur hg2 hbb
                go_wp2_with fail
                refine (nest_rest g2 s2 (nestB (gs.drop (q + 1)) bl) wa _ HCur.out HG2.out HBb.out).mono ?_
                rintro e wc ⟨⟨X2, y2, z2, rfl, hx2⟩, hbc⟩
                have HX3 := Lib.hid hx2
                have HRc := Lib.hid (row_below HRa.out hbc)
                have HEc := Lib.hid (HEa.out.trans (hbc.mono HEa.out.size))
                clear hx2 hbc HCur HG2 HBb HRa HEa HBa
                go_wp2
                go_roundw
                case rel => first | exact ⟨q + 1, X2, y2, z2, rfl, by go_num, by omega, HX3.out, HRc.out, HEc.out⟩ | ((repeat apply Exists.intro); exact ⟨⟨q + 1, X2, y2, z2, rfl, by go_num, by omega, HX3.out, HRc.out, HEc.out⟩, rfl⟩)
                case measure => simp [intOf]; omega
              · have hqn : q = gs.length := by omega
                subst hqn
                have hfin : nestB (gs.drop gs.length) bl = bl := by rw [List.drop_length]; rfl
                rw [hfin] at hbs
                have HBS := Lib.hid hbs
                have HBE := Lib.hid hbe
                have HWr := Lib.hid (HW.out.below hbe)
                clear hbs hbe hrow hfin hlt hq
                go_wp2_with fail
                refine (refSame X' B y' m z' d bl bl _ HBS.out HWr.out (by have := HBS.out.len; omega) (by omega)).mono ?_
                rintro e wz ⟨rfl, hqz⟩
                rw [decide_eq_true rfl]
                have HZ := Lib.hid (HBE.out.trans (hqz.below (B := w.heap.size)))
                clear hqz
                go_wp2
                go_ret
                exact ⟨rfl, HZ.out⟩
end Go.Proofs.Ytinnkjoboeihmaa

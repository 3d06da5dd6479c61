/-
  The contracts of the project's oid: contents.
-/
import Derived.Test.YtfighoplbmmijaaDoorOb
namespace Go.Proofs.YtfighoplbmmijaaDoor
open Go.RowKit Go.Joins
set_option linter.unusedVariables false
set_option linter.unusedSimpArgs false
set_option maxRecDepth 4000

/-- New bytes, and an error's number. -/
def NewO (w : World) (l : List UInt8) (e : Ending) (w' : World) : Prop := ∃ A m c, e = .returned (.tuple #[.slice A m c, .int .i64 0]) ∧ Ob w' w.heap.size 5 (.slice A m c) l ∧ Below w.heap.size w w'

theorem oidContentsNo (A : Option Addr) (n c : Nat) (l : List Int) (w : World) (h : Zs w A n l) (hn : n ≤ 1099511627776) (hr : rightO l = false) :
    Calls Tryd.prog 8 #[.slice A n c] w fun e w' => e = .returned (.tuple #[.slice none 0 0, .int .i64 1]) ∧ Below w.heap.size w w' := by
  have hR := oidRight A n c l w h hn
  rw [hr] at hR
  go_enter Tryd.func8, Tryd.ntmps8
  go_wp2_with fail
  refine hR.mono ?_
  rintro e w1 ⟨rfl, q⟩
  go_wp2
  go_ret2
  exact ⟨rfl, q.below⟩

theorem Wv.start (w : World) : Wv ((w.alloc (.cells #[.slice none 0 0] 24)).alloc (.cells #[writeV (w.heap.size + 1) w.heap.size] 49)) w.heap.size (w.heap.size + 1) w.heap.size (.slice none 0 0) [] := by
  refine ⟨by simp; omega, by omega, by omega, ?_, ?_, Ob.nil _ _ _⟩
  · have := heap_alloc_new (w.alloc (.cells #[.slice none 0 0] 24)) (.cells #[writeV (w.heap.size + 1) w.heap.size] 49)
    simpa [Blk1] using this
  · exact Blk1.alloc (heap_alloc_new w _) _

set_option maxHeartbeats 1600000 in
theorem oidContents (A : Option Addr) (n c : Nat) (l : List Int) (w : World) (h : Zs w A n l) (hc : n ≤ c) (hn : n ≤ 1099511627776) (hr : RightO l) :
    Calls Tryd.prog 8 #[.slice A n c] w (NewO w (contO l)) := by
  have hR := oidRight A n c l w h hn
  rw [(rightO_iff l).2 hr] at hR
  have hl := Lib.hid h.len
  have h2 : 2 ≤ n := by have := hr.two; have := hl.out; omega
  have h32 : n ≤ 32 := by have := hr.max; have := hl.out; omega
  go_enter Tryd.func8, Tryd.ntmps8
  go_wp2_with fail
  refine hR.mono ?_
  rintro e w1 ⟨rfl, q⟩
  have hZ1 := h.qt q
  have hB1 : Below w.heap.size w w1 := q.below
  have hsz : w1.heap.size = w.heap.size := by obtain ⟨k, rfl⟩ := q; rfl
  have ZS : Hid (∀ W, Below w.heap.size w W → Zs W A n l) := fun W hW => h.below hW
  clear hR h q
  have hS0 := Wv.start w1
  have hB2 := below_alloc2 w1 (.cells #[.slice none 0 0] 24) (.cells #[writeV (w1.heap.size + 1) w1.heap.size] 49)
  have hZ2 := hZ1.below hB2
  have f0 := hr.first
  have a0 := hr.at_ 0
  have a1 := hr.at_ 1
  have a2 := hr.top
  have HS := Lib.hid hsz; clear hsz
  go_wp2
  generalize ((w1.alloc (Obj.cells #[Value.slice none 0 0] 24)).alloc (Obj.cells #[writeV (w1.heap.size + 1) w1.heap.size] 49)) = W0 at *
  rw [HS.out] at hS0 hB2 ⊢
  have hB0 : Below w.heap.size w W0 := hB1.trans hB2
  clear hB1 hB2 hZ1
  obtain ⟨b, o, rfl, c0⟩ := hZ2.at_ (k := 0) (by omega)
  obtain ⟨b', o', e, c1⟩ := hZ2.at_ (k := 1) (by omega)
  cases e
  rw [Nat.add_zero] at c0
  have i0 : 0 < n := by omega
  have i1 : 1 < n := by omega
  have j1 : (1 : Int) < (n : Int) := by omega
  have cc := cell_of_one hS0.2.2.2.1
  generalize hR : w.heap.size = R at *
  have HR := Lib.hid hR; clear hR
  go_still_tail 9, (by kernel_rfl)
  go_wp2_with fail
  refine (oidWrite (40 * zth l 0 + zth l 1).toNat 0 _ _ R (R + 1) R _ [] W0.drew (by omega) rfl (by omega) (by omega) (by simp; omega) hS0).mono ?_
  rintro e w2 ⟨rfl, ⟨v2, hS2⟩, hB3⟩
  have hB4 : Below R w w2 := hB0.trans ((Below.refl R W0).drew.trans hB3)
  rw [List.nil_append] at hS2
  have hF0 : Hid (spl (40 * zth l 0 + zth l 1).toNat 0 = arcO (40 * zth l 0 + zth l 1)) := rfl
  rw [hF0.out] at hS2
  clear hS0 hB0 hB3 c0 c1 cc hF0 hZ2 W0 a0 a1 a2 f0
  have LEN : Hid (∀ k, k + 2 < n → 0 ≤ zth l (k + 2) ∧ zth l (k + 2) ≤ 2147483647) := fun k _ => hr.at_ _
  have FIN : Hid (arcO (40 * zth l 0 + zth l 1) ++ ((l.drop 2).take (n - 2)).flatMap arcO = contO l) := by
    unfold Hid contO; rw [List.take_of_length_le (by have := hl.out; simp; omega)]
  have BND : Hid (∀ k, k + 2 ≤ n → (arcO (40 * zth l 0 + zth l 1) ++ ((l.drop 2).take k).flatMap arcO).length ≤ 5 * (k + 1)) := by
    intro k
    induction k with
    | zero => intro _; have := spl_len5 (40 * zth l 0 + zth l 1).toNat 0 (by have := hr.first; omega); simp [arcO]; omega
    | succ k ih =>
      intro hk
      have h1 := ih (by omega)
      have hkl : k < (l.drop 2).length := by have := hl.out; simp; omega
      rw [List.take_succ_eq_append_getElem hkl, List.flatMap_append, ← List.append_assoc, List.length_append]
      have : (List.flatMap arcO [(l.drop 2)[k]]).length ≤ 5 := by
        simp [arcO]
        exact spl_len5 _ _ (by have := hr.arcs (l[2 + k]'(by have := hl.out; omega)) (by simp); omega)
      omega
  have STEP : Hid (∀ k, k + 2 < n → (arcO (40 * zth l 0 + zth l 1) ++ ((l.drop 2).take k).flatMap arcO) ++ spl (zth l (k + 2)).toNat 0 = arcO (40 * zth l 0 + zth l 1) ++ ((l.drop 2).take (k + 1)).flatMap arcO) := by
    intro k hk
    have hkl : k < (l.drop 2).length := by have := hl.out; simp; omega
    rw [List.take_succ_eq_append_getElem hkl, List.flatMap_append, ← List.append_assoc]
    congr 1
    simp [arcO, zth, List.getD, List.getElem?_eq_getElem (show k + 2 < l.length by have := hl.out; omega), Nat.add_comm]
  by_cases hc2 : c = 2
  · subst hc2
    have hn2 : n = 2 := by omega
    subst hn2
    go_wp2
    go_loopw [25] (fun i wr => i = .int .i64 0 ∧ wr = w2) (fun _ _ => 0)
    case atStart => exact ⟨rfl, rfl⟩
    case round =>
      obtain ⟨rfl, rfl⟩ := hrel
      have hob := hS2.2.2.2.2.2
      have co := cell_of_one hS2.2.2.2.2.1
      obtain ⟨A9, c9, rfl, hc9, hbs9⟩ := hob.slice
      have hF := FIN.out
      simp only [Nat.sub_self, List.take_zero, List.flatMap_nil, List.append_nil] at hF
      have HF := Lib.hid hF; clear hF
      go_wp2
      go_ret2
      unfold NewO
      rw [HR.out, ← HF.out]
      exact ⟨_, _, _, rfl, hob, hB4⟩
  · have hc3 : ¬ (c : Int) = 2 := by omega
    go_wp2
    go_loopw [25] (fun i wr => ∃ (k : Nat) (v : Value), i = .int .i64 (k : Int) ∧ k + 2 ≤ n ∧ Wv wr R (R + 1) R v (arcO (40 * zth l 0 + zth l 1) ++ ((l.drop 2).take k).flatMap arcO) ∧ Below R w wr) (fun i _ => n - (intOf i).toNat)
    case atStart => exact ⟨0, v2, rfl, h2, by simpa using hS2, hB4⟩
    case round =>
      obtain ⟨k, v, rfl, hk, hS, hB⟩ := hrel
      have hob := hS.2.2.2.2.2
      have co := cell_of_one hS.2.2.2.2.1
      have cc := cell_of_one hS.2.2.2.1
      obtain ⟨A9, c9, rfl, hc9, hbs9⟩ := hob.slice
      by_cases hlt : k + 2 < n
      · have e1 : (k : Int) < (n : Int) - 2 := by omega
        have e2 : k < n - 2 := by omega
        obtain ⟨b', o', e, cz⟩ := (ZS.out wr hB).at_ (k := k + 2) hlt
        cases e
        have cz' : wr.cell? ⟨b, o + 2 + k, none⟩ = some (.int .i64 (zth l (k + 2))) := by rw [← cz, show o + 2 + k = o + (k + 2) by omega]
        clear cz
        have hz := LEN.out k hlt
        have hbd := BND.out k (by omega)
        have hst := Lib.hid (STEP.out k hlt)
        generalize zth l (k + 2) = z at *
        generalize (arcO (40 * zth l 0 + zth l 1) ++ ((l.drop 2).take k).flatMap arcO) = pre at *
        go_wp2_with fail
        refine (oidWrite z.toNat 0 _ _ R (R + 1) R _ pre wr (by omega) rfl (by omega) (by omega) (by omega) hS).mono ?_
        rintro e w3 ⟨rfl, ⟨v3, hS3⟩, hB3⟩
        rw [hst.out] at hS3
        go_wp2
        go_roundw
        case rel => exact ⟨k + 1, v3, by go_num, by omega, hS3, hB.trans hB3⟩
        case measure => simp [intOf]; omega
      · have e1 : ¬ (k : Int) < (n : Int) - 2 := by omega
        have e2 : ¬ k < n - 2 := by omega
        have hk2 : k = n - 2 := by omega
        have hF := FIN.out
        rw [← hk2] at hF
        have HF := Lib.hid hF; clear hF hk2
        generalize (arcO (40 * zth l 0 + zth l 1) ++ ((l.drop 2).take k).flatMap arcO) = pre at *
        generalize pre.length = pn at *
        go_wp2
        go_ret2
        unfold NewO
        rw [HR.out, ← HF.out]
        exact ⟨_, _, _, rfl, hob, hB⟩

/-- s[k:]. -/
theorem cutB (A : Option Addr) (n c k : Nat) (hk : k ≤ n) (hc : n ≤ c) : ∃ A', (∀ (W : World), (Instr.slice 24 (.slice A n c) (some (.int .i64 (k : Int))) none none).run Tryd.prog W = .ok (.slice A' (n - k) (c - k)) W) ∧
    ∀ (W : World) (l : List UInt8), Bs W A n l → Bs W A' (n - k) (l.drop k) := by
  by_cases h : k = c
  · subst h
    have : n = k := by omega
    subst this
    refine ⟨A, fun W => ?_, fun W l hb => ?_⟩
    · go_simp
      try (cases A <;> simp [sliced])
    · have := hb.len
      rw [List.drop_eq_nil_of_le (by omega), Nat.sub_self]
      exact Bs.nil _ _
  · refine ⟨Option.map (fun x => x.add k) A, fun W => ?_, fun W l hb => ?_⟩
    · go_simp
      have : ¬ c = k := fun e => h e.symm
      cases A <;> simp [sliced, h, this, Nat.sub_eq_zero_iff_le] <;> omega
    · have := hb.cut (i := k) (j := n) hk (Nat.le_refl _)
      rw [List.take_of_length_le (by have := hb.len; simp; omega)] at this
      exact this

theorem prsR_step {r : List UInt8} {o : List Int} (h : r ≠ []) : prsR r.length r o =
    if (numR r 0 0).2.2 ≠ 0 then ([], (numR r 0 0).2.2) else if o.length = 32 then ([], 2) else prsR (r.drop (numR r 0 0).2.1).length (r.drop (numR r 0 0).2.1) (o ++ [(numR r 0 0).1]) := by
  obtain ⟨f, hf⟩ : ∃ f, r.length = f + 1 := ⟨r.length - 1, by have : 0 < r.length := List.length_pos_iff.2 h; omega⟩
  rw [hf, prsR, if_neg h]
  by_cases he : (numR r 0 0).2.2 ≠ 0
  · rw [if_pos he, if_pos he]
  · rw [if_neg he, if_neg he]
    have hn := numR_ok r 0 0 (by omega) (by omega) (by simpa using he)
    by_cases ho : o.length = 32
    · rw [if_pos ho, if_pos ho]
    · rw [if_neg ho, if_neg ho]
      exact prsR_fuel _ _ _ _ (by simp; omega) (by simp)
/-- A slice's length. -/
def lenV : Value → Nat
  | .slice _ n _ => n
  | _ => 0

/-- What Parse hands back. -/
def PrsOk (w : World) (r : List Int × Int) (e : Ending) (w' : World) : Prop :=
  ∃ v, e = .returned (.tuple #[v, .int .i64 r.2]) ∧ Ov w' w.heap.size 3 v (r.1.map intV) ∧ Below w.heap.size w w'

theorem numR_ne {b : List UInt8} (h : (numR b 0 0).2.2 ≠ 0) : (numR b 0 0).2.2 = 6 ∨ (numR b 0 0).2.2 = 2 := by
  rcases numR_err b 0 0 with h1 | h1 | h1
  · exact absurd h1 h
  · rw [h1]; simp
  · rw [h1]; simp

theorem int_info : (Tryd.prog.info? 3).map (fun i => (i.zero, i.size, i.bytes)) = some (some (.int .i64 0), 1, 8) := by kernel_rfl

set_option maxHeartbeats 1600000 in
theorem oidParse (A : Option Addr) (n c : Nat) (l : List UInt8) (w : World) (h : Bs w A n l) (hc : n ≤ c) (hn : n ≤ 1099511627776) :
    Calls Tryd.prog 20 #[.slice A n c] w (PrsOk w (prsO l)) := by
  obtain ⟨i0, hi, hz0, hz1, hz2⟩ := info_parts int_info
  have hl := Lib.hid h.len
  by_cases h0 : (numR l 0 0).2.2 ≠ 0
  · have hF : Hid (prsO l = ([], (numR l 0 0).2.2)) := by unfold Hid prsO; rw [if_pos h0]
    have hN := oidNumber A n c l w h hn
    have hne := numR_ne h0
    unfold numV at hN
    generalize numR l 0 0 = r at *
    obtain ⟨rn, rs, re⟩ := r
    simp only at hN hne hF h0
    go_enter Tryd.func20, Tryd.ntmps20
    go_wp2_with fail
    refine hN.mono ?_
    rintro e w1 ⟨rfl, rfl⟩
    have hre : (re != 0) = true := by simpa using h0
    rcases hne with rfl | rfl
    all_goals
      go_wp2
      go_ret2
      rw [hF.out]
      exact ⟨_, rfl, Ov.nil _ _ _, Below.refl _ _⟩
  · have h0' : (numR l 0 0).2.2 = 0 := by simpa using h0
    have hF : Hid (prsO l = prsR l.length (l.drop (numR l 0 0).2.1) (splitO (numR l 0 0).1)) := by unfold Hid prsO; rw [if_neg h0]
    have hN := oidNumber A n c l w h hn
    have hok := numR_ok l 0 0 (by omega) (by omega) h0'
    unfold numV at hN
    generalize numR l 0 0 = r at *
    obtain ⟨rn, rs, re⟩ := r
    simp only at hN hF h0' hok
    subst h0'
    obtain ⟨s0, s1, n0, n1⟩ := hok
    rw [hl.out] at s1
    rw [Nat.zero_add] at s1
    go_enter Tryd.func20, Tryd.ntmps20
    go_wp2_with fail
    refine hN.mono ?_
    rintro e w1 ⟨rfl, rfl⟩
    go_wp2_with fail
    refine (oidSplit rn _ n0 n1).mono ?_
    rintro e w1 ⟨v1, rfl, hov, hB1⟩
    obtain ⟨A1, hrun, hbs⟩ := cutB A n c rs s1 hc
    have hb1 := (hbs w1 l (h.below hB1))
    have hF2 : Hid (prsO l = prsR (l.drop rs).length (l.drop rs) (splitO rn)) := by
      unfold Hid; rw [hF.out]; exact prsR_fuel _ _ _ _ (by simp) (Nat.le_refl _)
    have hb0 := hbs w l h
    have hlm : (l.drop rs).length = n - rs := hb0.len
    rw [hlm] at hF2
    have HLM := Lib.hid hlm
    have hsp2 : (splitO rn).length ≤ 32 := by simp [splitO]
    clear hF hbs hb1 hlm h hN h0
    go_wp2
    generalize l.drop rs = r1 at *
    generalize splitO rn = o1 at *
    go_loopw [0, 7] (fun bv v wr => ∃ (A' : Option Addr) (m c' : Nat) (r : List UInt8) (ob : List Int), bv = .slice A' m c' ∧ Bs w A' m r ∧ m ≤ c' ∧ m ≤ n ∧ Ov wr w.heap.size 3 v (ob.map intV) ∧ ob.length ≤ 32 ∧ Below w.heap.size w wr ∧ Hid (prsO l = prsR m r ob)) (fun bv _ _ => lenV bv)
    case atStart => exact ⟨A1, _, _, r1, o1, rfl, hb0, by omega, by omega, hov, hsp2, hB1, hF2⟩
    case round =>
      obtain ⟨A', m, c', r, ob, rfl, hbr, hmc, hmn, hor, ho32, hBr, hp⟩ := hrel
      have hrl := Lib.hid hbr.len
      clear hov hB1 hb0 hF2 hsp2 hrun
      by_cases hm0 : m = 0
      · subst hm0
        have hr0 : r = [] := List.eq_nil_of_length_eq_zero hrl.out
        have hE : Hid (prsO l = (ob, 0)) := by unfold Hid; rw [hp.out, hr0, prsR]
        clear hr0
        go_wp2
        go_ret2
        rw [hE.out]
        exact ⟨_, rfl, hor, hBr⟩
      · have hm1 : (0 : Int) < m := by omega
        have hm2 : 0 < m := by omega
        have hne : r ≠ [] := by intro e; have := hrl.out; rw [e] at this; simp at this; omega
        have hst : Hid (prsO l = if (numR r 0 0).2.2 ≠ 0 then ([], (numR r 0 0).2.2) else if ob.length = 32 then ([], 2) else prsR (r.drop (numR r 0 0).2.1).length (r.drop (numR r 0 0).2.1) (ob ++ [(numR r 0 0).1])) := by
          unfold Hid; rw [hp.out, ← prsR_step hne, hrl.out]
        have hN := oidNumber A' m c' r wr (hbr.below hBr) (by omega)
        unfold numV at hN
        have hne2 := @numR_ne r
        have hok := numR_ok r 0 0 (by omega) (by omega)
        generalize numR r 0 0 = rr at *
        obtain ⟨rn', rs', re'⟩ := rr
        simp only at hN hne2 hok hst
        clear hp hne
        by_cases he : re' ≠ 0
        · have hE : Hid (prsO l = ([], re')) := by unfold Hid; rw [hst.out, if_pos he]
          have hne3 := hne2 he
          clear hne2 hok hst
          go_wp2_with fail
          refine hN.mono ?_
          rintro e w9 ⟨rfl, rfl⟩
          rcases hne3 with rfl | rfl
          all_goals
            go_wp2
            go_ret2
            rw [hE.out]
            exact ⟨_, rfl, Ov.nil _ _ _, hBr⟩
        · have he0 : re' = 0 := by simpa using he
          have hst2 : Hid (prsO l = if ob.length = 32 then ([], 2) else prsR (r.drop rs').length (r.drop rs') (ob ++ [rn'])) := by unfold Hid; rw [hst.out, if_neg he]
          obtain ⟨s0', s1', n0', n1'⟩ := hok he0
          rw [Nat.zero_add, hrl.out] at s1'
          subst he0
          clear hne2 hok hst he
          obtain ⟨Ao, co, rfl, hco, hvo⟩ := hor.slice
          have hlo : (ob.map intV).length = ob.length := by simp
          rw [hlo] at hor hco
          by_cases h32 : ob.length = 32
          · have hE : Hid (prsO l = ([], 2)) := by unfold Hid; rw [hst2.out, if_pos h32]
            rw [h32] at hor hlo
            go_wp2_with fail
            refine hN.mono ?_
            rintro e w9 ⟨rfl, rfl⟩
            rw [hlo]
            clear hlo hst2
            go_wp2
            go_ret2
            rw [hE.out]
            exact ⟨_, rfl, Ov.nil _ _ _, hBr⟩
          · have hE : Hid (prsO l = prsR (r.drop rs').length (r.drop rs') (ob ++ [rn'])) := by unfold Hid; rw [hst2.out, if_neg h32]
            obtain ⟨A2, hrun2, hbs2⟩ := cutB A' m c' rs' s1' hmc
            have hb2 := hbs2 w r hbr
            have h32' : ((ob.length : Int) == 32) = false := by simp; omega
            go_wp2_with fail
            refine hN.mono ?_
            rintro e w9 ⟨rfl, rfl⟩
            rw [hlo]
            clear hst2
            generalize hon : ob.length = on at *
            have HON := Lib.hid hon
            have HLO := Lib.hid hlo
            clear hlo hbs2 hN hvo hon
            go_wp2_with (at_builtin; (refine wpList_appendV rfl _ _ 22 rfl w.heap.size 3 i0 (.int .i64 0) Tryd.underlying22 hi hz0 hz1 (by omega) rfl _ (ob.map intV) rfl (hor.alloc _) _ _ _ [intV rn'] rfl (Vs.new1 wr _ 3) ?ab0 ?ab1 ?ab2 ?_))
            case ab0 => intro u hu; simp at hu; subst hu; rfl
            case ab1 => have := HLO.out; omega
            case ab2 => have := hBr.size; simp; omega
            intro v' w9 hov9 hg9 _ _
            have hbel1 := (hor.alloc _).grew (hBr.alloc hBr.size _) (Nat.le_refl _) hg9
            go_wp2
            refine ⟨⟨A2, _, _, r.drop rs', ob ++ [rn'], rfl, hb2, by omega, by omega, by simpa using hov9, ?_, hbel1, ?_⟩, by simp [lenV]; omega⟩
            · have := HON.out; simp; omega
            · unfold Hid; rw [hE.out, hb2.len]
end Go.Proofs.YtfighoplbmmijaaDoor

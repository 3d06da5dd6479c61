/-
  The law SpanSums.
-/
import Derived.Test.YtlmmoinmlcpmnaaSm
namespace Go.Proofs.Ytlmmoinmlcpmnaa
open Go.RowKit
set_option linter.unusedVariables false
set_option linter.unusedSimpArgs false
set_option maxRecDepth 4000

set_option maxHeartbeats 12800000 in
theorem lawSums (a b : Int) (A : Option Addr) (n c : Nat) (l : List Int) (w : World) (ha : I64 a) (hb : I64 b) (h : Zs w A n l) (hc : n ≤ c) (hl : ∀ z ∈ l, I64 z) :
    Calls Try.prog 3 #[.int .i64 a, .int .i64 b, .slice A n c] w fun e w' => e = .returned (.bool true) ∧ Below w.heap.size w w' := by
  have HZ := Lib.hid h
  have HI := Lib.hid hl
  have HA := Lib.hid ha
  have HB := Lib.hid hb
  have hlen := h.len
  obtain ⟨N, hN⟩ : ∃ N, min n 40 = N := ⟨_, rfl⟩
  have hNn : N ≤ n := by omega
  have hN40 : N ≤ 40 := by omega
  have HT : Hid (Zs w A N (l.take N)) := HZ.out.take hNn
  have HTI : Hid (∀ z ∈ l.take N, I64 z) := fun z hz => HI.out z (List.mem_of_mem_take hz)
  have HTL : Hid ((l.take N).length = N) := by unfold Hid; rw [List.length_take]; omega
  obtain ⟨r, hr⟩ : ∃ r, l.take N = r := ⟨_, rfl⟩
  rw [hr] at HT HTI HTL
  clear h hl ha hb hr
  have KP := Lib.hid (fun x y W hx hy => rfPlus x y W hx hy)
  have KM := Lib.hid (fun x y W hx hy => rfMinus x y W hx hy)
  have KS := Lib.hid (fun W => spSub a b W HA.out HB.out)
  have KA : Hid (∀ W, Below w.heap.size w W → Calls Try.prog 11 #[.int .i64 a, .slice A N c] W fun e w' => e = .returned (.int .i64 (r.foldl pls a)) ∧ w' = W) := fun W hW => spAdd a A N c r W HA.out (HT.out.below hW) HTI.out (by omega)
  have KN := Lib.hid (fun W => spNeg a W HA.out)
  have KE : Hid (∀ W, Calls Try.prog 15 #[.int .i64 a] W fun e w' => e = .returned (.bool ((a == -9223372036854775808) || (a == 9223372036854775807))) ∧ w' = W) := by
    intro W
    refine (spEnds a W).mono ?_
    rintro e w' ⟨rfl, hw⟩
    refine ⟨?_, hw⟩
    congr 2
    by_cases g1 : a = -9223372036854775808 <;> by_cases g2 : a = 9223372036854775807 <;> simp [g1, g2]
  have KK := Lib.hid (fun W => known11 W)
  have B0 := Lib.hid (Below.refl w.heap.size w)
  go_enter Try.func3, Try.ntmps3
  go_upto_region 1 with (fail)
  go_cut [2] from 7 (fun v wc => v = .slice A N c ∧ wc = w)
  case first =>
    go_wp2_with fail
    go_meet
    refine ⟨?_, rfl⟩
    congr 1
    omega
  case rest =>
    obtain ⟨rfl, hw⟩ := hcut
    rw [hw]
    clear hw
    go_wp2
    go_loopw [7, 8] (fun s i wr => ∃ k : Nat, k ≤ N ∧ s = .int .i64 ((r.take k).foldl pls a) ∧ i = .int .i64 (k : Int) ∧ Below w.heap.size w wr) (fun _ i _ => N - (intOf i).toNat)
    case atStart => exact ⟨0, Nat.zero_le _, by simp, rfl, Below.refl _ _⟩
    case round =>
      obtain ⟨k, hk, rfl, rfl, hbw⟩ := hrel
      have KB := Lib.hid hbw
      clear hbw
      by_cases hlt : k < N
      · obtain ⟨b1, o1, rfl, hc⟩ := (Zs.below HT.out KB.out).at_ hlt
        have hx : r[k]? = some (zth r k) := by unfold zth; have := HTL.out; simp [show k < r.length by omega]
        have HF := Lib.hid (fold_take pls a r k _ hx)
        have HX : Hid (I64 (zth r k)) := HTI.out _ (List.mem_of_getElem? hx)
        have HY : Hid (I64 ((r.take k).foldl pls a)) := fold_i64 _ _ HA.out
        have e1 : (k : Int) < (N : Int) := by omega
        clear hx
        obtain ⟨z, hz⟩ : ∃ z, (r.take k).foldl pls a = z := ⟨_, rfl⟩
        rw [hz] at HF HY ⊢
        clear hz
        generalize zth r k = q at *
        go_wp2_with fail
        refine (KP.out _ _ _ HY.out HX.out).mono ?_
        rintro e w2 ⟨rfl, hb⟩
        have B2 := Lib.hid (bstep KB.out hb KB.out.size)
        clear hb hc
        go_wp2
        go_roundw
        case rel => exact ⟨k + 1, by omega, by rw [HF.out], by go_num, B2.out⟩
        case measure => simp [intOf]; omega
      · have e1 : ¬ (k : Int) < (N : Int) := by omega
        have hkn : k = N := by omega
        subst hkn
        have HT2 : Hid (r.take k = r) := by unfold Hid; have := HTL.out; rw [← this]; simp
        rw [HT2.out]
        clear HT2
        generalize r.foldl pls a = z at *
        go_wp2_with fail
        refine (KK.out _).mono ?_
        rintro e x1 ⟨rfl, hb⟩
        have B1 := Lib.hid (bstep KB.out hb KB.out.size)
        clear hb
        go_wp2_with fail
        refine (KA.out _ B1.out).mono ?_
        rintro e xx ⟨rfl, hq⟩
        have hq2 := hq.symm
        subst hq2
        go_wp2_with fail
        refine (KS.out _).mono ?_
        rintro e x2 ⟨rfl, hb⟩
        have B2 := Lib.hid (bstep B1.out hb B1.out.size)
        clear hb
        go_wp2_with fail
        refine (KM.out _ _ _ HA.out HB.out).mono ?_
        rintro e x3 ⟨rfl, hb⟩
        have B3 := Lib.hid (bstep B2.out hb B2.out.size)
        clear hb
        go_wp2_with fail
        refine (KN.out _).mono ?_
        rintro e x4 ⟨rfl, hb⟩
        have B4 := Lib.hid (bstep B3.out hb B3.out.size)
        clear hb
        go_wp2_with fail
        refine (KM.out _ _ _ (i64_lit rfl) HA.out).mono ?_
        rintro e x5 ⟨rfl, hb⟩
        have B5 := Lib.hid (bstep B4.out hb B4.out.size)
        clear hb
        go_wp2_with fail
        refine (KE.out _).mono ?_
        rintro e xx ⟨rfl, hq⟩
        have hq2 := hq.symm
        subst hq2
        cases hp : (a == -9223372036854775808) <;> cases hq : (a == 9223372036854775807)
        all_goals
          go_wp2
          go_ret
          exact ⟨rfl, B5.out⟩
end Go.Proofs.Ytlmmoinmlcpmnaa

/-
  The law SpanMeets.
-/
import Derived.Test.YtlmmoinmlcpmnaaSm
namespace Go.Proofs.Ytlmmoinmlcpmnaa
open Go.RowKit
set_option linter.unusedVariables false
set_option linter.unusedSimpArgs false
set_option maxRecDepth 4000

def allIn (l : List Sp) (t : Int) : Bool := l.all (fun z => decide (Inn z t))
theorem allIn_snoc (l : List Sp) (x : Sp) (t : Int) : allIn (l ++ [x]) t = (allIn l t && decide (Inn x t)) := by unfold allIn; simp
theorem allIn_iff (l : List Sp) (t : Int) : (∀ s ∈ l, Inn s t) ↔ allIn l t = true := by unfold allIn; simp
set_option maxHeartbeats 12800000 in
theorem lawMeets (A : Option Addr) (n c : Nat) (l : List Sp) (t : Int) (w : World) (h : Sps w A n l) (hl : ∀ s ∈ l, I64s s) (ht : I64 t) :
    Calls Try.prog 5 #[.slice A n c, .int .i64 t] w fun e w' => e = .returned (.bool true) ∧ Below w.heap.size w w' := by
  have KF := Lib.hid (lwFew A n c l w h)
  have HI := Lib.hid hl
  have KK := Lib.hid (fun W => known11 W)
  obtain ⟨m, hm⟩ : ∃ m, l.take 40 = m := ⟨_, rfl⟩
  have hm64 : ∀ s ∈ m, I64s s := by rw [← hm]; exact fun s hs => HI.out s (List.mem_of_mem_take hs)
  have hm40 : m.length ≤ 40 := by rw [← hm, List.length_take]; omega
  rw [hm] at KF
  have M64 := Lib.hid hm64
  obtain ⟨N, hN⟩ : ∃ N, m.length = N := ⟨_, rfl⟩
  have HN := Lib.hid hN
  have hN40 : N ≤ 40 := by omega
  clear h hl hm hm64 hm40 hN
  have HT := Lib.hid ht
  clear ht
  go_enter Try.func5, Try.ntmps5
  go_wp2_with fail
  refine KF.out.mono ?_
  rintro e x1 ⟨v1, rfl, ho, hb⟩
  obtain ⟨A1, c1, hv, hle1, hs1⟩ := ho.sps
  rw [HN.out] at hv hs1 hle1
  subst hv
  have B1 := Lib.hid hb
  have SM : Hid (∀ W, Below x1.heap.size x1 W → Sps W A1 N m) := fun W hW => hs1.below hW
  have X1 := Lib.hid (Below.refl x1.heap.size x1)
  have ALL : Hid (∀ W, Below x1.heap.size x1 W → Calls Try.prog 31 #[.slice A1 N c1] W fun e w' => ∃ A' c', e = .returned (.slice A' N c') ∧ Sps w' A' N m ∧ Below W.heap.size W w') := by
    intro W hW
    refine (lwAll A1 N c1 m W (SM.out W hW) (by omega)).mono ?_
    rintro e w' ⟨v, rfl, ho, hb⟩
    obtain ⟨A', c', rfl, _, hs⟩ := ho.sps
    have hh := HN.out
    rw [hh] at hs ⊢
    exact ⟨A', c', rfl, hs, hb⟩
  clear ho hb hs1 KF
  have KM := Lib.hid (spMeet A1 N c1 m x1 (SM.out _ X1.out) (by omega))
  have KC : Hid (∀ W, Below x1.heap.size x1 W → Calls Try.prog 29 #[.slice A1 N c1] W fun e w' => e = .returned (.agg #[.int .i64 (covL m).1, .int .i64 (covL m).2]) ∧ Below W.heap.size W w') := fun W hW => spCover A1 N c1 m W (SM.out W hW) (by omega)
  have RM : Hid (∀ A' c' W, Sps W A' N m → Calls Try.prog 30 #[.slice A' N c'] W fun e w' => e = .returned (.agg #[.int .i64 (meetL m).1, .int .i64 (meetL m).2]) ∧ Below W.heap.size W w') := fun A' c' W hW => rfMeet A' N c' m W hW (by omega)
  have RC : Hid (∀ A' c' W, Sps W A' N m → Calls Try.prog 32 #[.slice A' N c'] W fun e w' => e = .returned (.agg #[.int .i64 (covL m).1, .int .i64 (covL m).2]) ∧ Below W.heap.size W w') := fun A' c' W hW => rfCover A' N c' m W hW (by omega)
  have RA : Hid (∀ A' c' W, Sps W A' N m → Calls Try.prog 33 #[.slice A' N c', .int .i64 t] W fun e w' => e = .returned (.bool (decide (Anyp m t))) ∧ Below W.heap.size W w') := fun A' c' W hW => rfAny A' N c' m t W hW (by omega)
  have FI : Hid (decide (Inn (meetL m) t) = allIn m t) := by
    unfold Hid
    have hi := inn_meetL m t HT.out
    rw [Bool.eq_iff_iff, decide_eq_true_eq, hi, allIn_iff]
  have FA : Hid (Anyp m t → Inn (covL m) t) := inn_covL
  generalize meetL m = ma at *
  generalize covL m = mb at *
  obtain ⟨a1, a2⟩ := ma
  obtain ⟨b1, b2⟩ := mb
  dsimp only at KM KC RM RC
  have KI := Lib.hid (fun x y W => spIn x y t W)
  have RI := Lib.hid (fun x y W => rfIn x y t W)
  have KO := Lib.hid (fun x y W => lwOf x y W)
  have HQ : Hid (∀ x y W, (binOp .eql 30 (.agg #[.int .i64 x, .int .i64 y]) (.agg #[.int .i64 x, .int .i64 y])).run Try.prog W = .ok (.bool true) W) := fun x y W => by go_simp
  go_wp2_with fail
  refine (KM.out).mono ?_
  rintro e x2 ⟨rfl, hb⟩
  have B2 := Lib.hid (bstep X1.out hb X1.out.size)
  clear hb
  go_wp2_with fail
  refine (KC.out _ B2.out).mono ?_
  rintro e x3 ⟨rfl, hb⟩
  have B3 := Lib.hid (bstep B2.out hb B2.out.size)
  clear hb
  have LA := Lib.hid ((Late.made B3.out (.int .i64 a1) (.int .i64 a2) 31).alloc (.cells #[.int .i64 b1, .int .i64 b2] 31))
  have LB : Hid (Late x1 ((x3.alloc (.cells #[.int .i64 a1, .int .i64 a2] 31)).alloc (.cells #[.int .i64 b1, .int .i64 b2] 31)) (x3.heap.size + 1) 31 (.int .i64 b1) (.int .i64 b2)) := by
    have h := Late.made (B3.out.alloc B3.out.size (.cells #[.int .i64 a1, .int .i64 a2] 31)) (.int .i64 b1) (.int .i64 b2) 31
    rw [World.size_alloc] at h
    exact h
  go_wp2
  go_loopw [8, 9] (fun s i wr => ∃ k : Nat, k ≤ N ∧ s = .bool (allIn (m.take k) t) ∧ i = .int .i64 (k : Int) ∧ Late x1 wr x3.heap.size 31 (.int .i64 a1) (.int .i64 a2) ∧ Late x1 wr (x3.heap.size + 1) 31 (.int .i64 b1) (.int .i64 b2)) (fun _ i _ => N - (intOf i).toNat)
  case atStart => exact ⟨0, Nat.zero_le _, rfl, rfl, LA.out, LB.out⟩
  case round =>
    obtain ⟨k, hk, rfl, rfl, ha, hb⟩ := hrel
    have GA := Lib.hid ha
    have GB := Lib.hid hb
    clear ha hb LA LB
    by_cases hlt : k < N
    · obtain ⟨bb, oo, x, y, rfl, hx, c0, c1'⟩ := (SM.out _ GA.out.bel).at_ hlt
      have HX : Hid (m.take (k + 1) = m.take k ++ [(x, y)]) := by unfold Hid; rw [List.take_add_one, hx]; rfl
      have e1 : (k : Int) < (N : Int) := by omega
      clear hx
      have HS : Hid (allIn (m.take (k + 1)) t = (allIn (m.take k) t && decide (Inn (x, y) t))) := by
        unfold Hid
        rw [HX.out, allIn_snoc]
      obtain ⟨b, hb⟩ : ∃ b, allIn (m.take k) t = b := ⟨_, rfl⟩
      rw [hb] at HS ⊢
      clear hb
      cases b with
      | true =>
        go_wp2_with fail
        refine (KO.out _ _ _).mono ?_
        rintro e y1 ⟨rfl, hb⟩
        have GA1 := Lib.hid (GA.out.call hb)
        have GB1 := Lib.hid (GB.out.call hb)
        clear hb
        go_wp2_with fail
        refine (RI.out _ _ _).mono ?_
        rintro e y2 ⟨rfl, hb⟩
        have GA2 := Lib.hid (GA1.out.call hb)
        have GB2 := Lib.hid (GB1.out.call hb)
        clear hb c0 c1' GA GB GA1 GB1
        rw [Bool.true_and] at HS
        generalize decide (Inn (x, y) t) = r at *
        go_wp2
        go_roundw
        case rel => exact ⟨k + 1, by omega, by rw [HS.out], by go_num, GA2.out, GB2.out⟩
        case measure => simp [intOf]; omega
      | false =>
        rw [Bool.false_and] at HS
        go_wp2
        go_roundw
        case rel => exact ⟨k + 1, by omega, by rw [HS.out], by go_num, GA.out, GB.out⟩
        case measure => simp [intOf]; omega
    · have e1 : ¬ (k : Int) < (N : Int) := by omega
      have hkn : k = N := by omega
      subst hkn
      have HT2 : Hid (m.take k = m) := by unfold Hid; rw [← HN.out]; simp
      rw [HT2.out, ← FI.out]
      have BF := Lib.hid GA.out.bel
      clear HT2
      go_wp2_with fail
      refine (KK.out _).mono ?_
      rintro e x10 ⟨rfl, hb⟩
      have B10 := Lib.hid (bstep BF.out hb BF.out.size)
      have GA10 := Lib.hid (GA.out.call hb)
      have GB10 := Lib.hid (GB.out.call hb)
      clear hb
      clear GA GB
      obtain ⟨⟨p0, p1⟩, _, _⟩ := GA10.out.blk.two
      obtain ⟨⟨q0, q1⟩, _, _⟩ := GB10.out.blk.two
      go_wp2_with fail
      refine (KO.out _ _ _).mono ?_
      rintro e x11 ⟨rfl, hb⟩
      have B11 := Lib.hid (bstep B10.out hb B10.out.size)
      have GA11 := Lib.hid (GA10.out.call hb)
      have GB11 := Lib.hid (GB10.out.call hb)
      clear hb
      clear GA10 GB10
      clear p0 p1 q0 q1
      go_wp2_with fail
      refine (ALL.out _ B11.out).mono ?_
      rintro e x12 ⟨A12, c12, rfl, hs, hb⟩
      have S1 := Lib.hid hs
      have B12 := Lib.hid (bstep B11.out hb B11.out.size)
      have GA12 := Lib.hid (GA11.out.call hb)
      have GB12 := Lib.hid (GB11.out.call hb)
      clear hb hs GA11 GB11
      go_wp2_with fail
      refine (RM.out _ _ _ S1.out).mono ?_
      rintro e x13 ⟨rfl, hb⟩
      have B13 := Lib.hid (bstep B12.out hb B12.out.size)
      have GA13 := Lib.hid (GA12.out.call hb)
      have GB13 := Lib.hid (GB12.out.call hb)
      clear hb
      clear GA12 GB12
      have hq := HQ.out a1 a2
      have hq2 := HQ.out b1 b2
      obtain ⟨⟨p0, p1⟩, _, _⟩ := GA13.out.blk.two
      obtain ⟨⟨q0, q1⟩, _, _⟩ := GB13.out.blk.two
      go_wp2_with fail
      refine (KO.out _ _ _).mono ?_
      rintro e x14 ⟨rfl, hb⟩
      have B14 := Lib.hid (bstep B13.out hb B13.out.size)
      have GA14 := Lib.hid (GA13.out.call hb)
      have GB14 := Lib.hid (GB13.out.call hb)
      clear hb
      clear GA13 GB13
      clear p0 p1 q0 q1
      go_wp2_with fail
      refine (ALL.out _ B14.out).mono ?_
      rintro e x15 ⟨A15, c15, rfl, hs, hb⟩
      have S2 := Lib.hid hs
      have B15 := Lib.hid (bstep B14.out hb B14.out.size)
      have GA15 := Lib.hid (GA14.out.call hb)
      have GB15 := Lib.hid (GB14.out.call hb)
      clear hb hs GA14 GB14
      go_wp2_with fail
      refine (RC.out _ _ _ S2.out).mono ?_
      rintro e x16 ⟨rfl, hb⟩
      have B16 := Lib.hid (bstep B15.out hb B15.out.size)
      have GA16 := Lib.hid (GA15.out.call hb)
      have GB16 := Lib.hid (GB15.out.call hb)
      clear hb
      clear GA15 GB15
      obtain ⟨⟨p0, p1⟩, _, _⟩ := GA16.out.blk.two
      obtain ⟨⟨q0, q1⟩, _, _⟩ := GB16.out.blk.two
      go_wp2_with fail
      refine (KI.out _ _ _).mono ?_
      rintro e x17 ⟨rfl, hb⟩
      have B17 := Lib.hid (bstep B16.out hb B16.out.size)
      have GA17 := Lib.hid (GA16.out.call hb)
      have GB17 := Lib.hid (GB16.out.call hb)
      clear hb
      clear GA16 GB16
      clear p0 p1 q0 q1
      go_wp2_with fail
      refine (ALL.out _ B17.out).mono ?_
      rintro e x18 ⟨A18, c18, rfl, hs, hb⟩
      have S3 := Lib.hid hs
      have B18 := Lib.hid (bstep B17.out hb B17.out.size)
      have GA18 := Lib.hid (GA17.out.call hb)
      have GB18 := Lib.hid (GB17.out.call hb)
      clear hb hs GA17 GB17
      go_wp2_with fail
      refine (RA.out _ _ _ S3.out).mono ?_
      rintro e x19 ⟨rfl, hb⟩
      have B19 := Lib.hid (bstep B18.out hb B18.out.size)
      have GA19 := Lib.hid (GA18.out.call hb)
      have GB19 := Lib.hid (GB18.out.call hb)
      clear hb
      clear GA18 GB18
      generalize decide (Inn (a1, a2) t) = r1 at *
      by_cases ga : Anyp m t
      · have gi := decide_eq_true (FA.out ga)
        rw [decide_eq_true ga]
        clear ga
        obtain ⟨⟨p0, p1⟩, _, _⟩ := GA19.out.blk.two
        obtain ⟨⟨q0, q1⟩, _, _⟩ := GB19.out.blk.two
        go_wp2_with fail
        refine (KI.out _ _ _).mono ?_
        rintro e x20 ⟨rfl, hb⟩
        have B20 := Lib.hid (bstep B19.out hb B19.out.size)
        have GA20 := Lib.hid (GA19.out.call hb)
        have GB20 := Lib.hid (GB19.out.call hb)
        clear hb
        clear GA19 GB19
        clear p0 p1 q0 q1
        rw [gi]
        go_wp2
        go_ret
        exact ⟨rfl, bstep B1.out B20.out B1.out.size⟩
      · rw [decide_eq_false ga]
        clear ga
        go_wp2
        go_ret
        exact ⟨rfl, bstep B1.out B19.out B1.out.size⟩
end Go.Proofs.Ytlmmoinmlcpmnaa

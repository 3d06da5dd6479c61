/-
  The law's own of layer 11: few, all, known; the reference's Any.
-/
import Derived.Test.YtlmmoinmlcpmnaaSj
namespace Go.Proofs.Ytlmmoinmlcpmnaa
open Go.RowKit
set_option linter.unusedVariables false
set_option linter.unusedSimpArgs false
set_option maxRecDepth 4000

theorem rs_info : (Try.prog.info? 30).map (fun i => (i.zero, i.size, i.bytes)) = some (some (.agg #[.int .i64 0, .int .i64 0]), 2, 16) := by kernel_rfl
/-- A row of the reference's spans of the call's own. -/
def Owr (w : World) (B : Nat) (v : Value) (l : List Sp) : Prop := w.ownsRow B 30 2 v l.length (spCs l)
theorem Owr.nil (w : World) (B : Nat) : Owr w B (.slice none 0 0) [] := World.ownsRow_nil _ _ _ _
theorem Owr.below {w w' : World} {B : Nat} {v : Value} {l : List Sp} (h : Owr w B v l) (hb : Below w.heap.size w w') : Owr w' B v l :=
  World.ownsRow.kept h (row := none) ⟨hb.os, hb.tape, hb.output, hb.size, fun i hi _ => hb.block i hi⟩ (by cases hv : v.ownBlock <;> simp)
theorem Owr.alloc {w : World} {B : Nat} {v : Value} {l : List Sp} (h : Owr w B v l) (o : Obj) : Owr (w.alloc o) B v l := World.ownsRow.alloc h o
theorem Owr.sps {w : World} {B : Nat} {v : Value} {l : List Sp} (h : Owr w B v l) : ∃ A c, v = .slice A l.length c ∧ l.length ≤ c ∧ Sps w A l.length l := by
  have hcells := @World.ownsRow.cells _ _ _ _ _ _ _ h
  rcases h.2 with ⟨rfl, h0⟩ | ⟨g, cap, cur, rfl, _, _, hle, _, _, _⟩
  · have : l = [] := List.eq_nil_of_length_eq_zero h0
    subst this
    exact ⟨none, 0, rfl, Nat.le_refl _, Sps.nil _ _⟩
  · refine ⟨_, cap, rfl, hle, rfl, fun i t hi => ⟨g, 0, rfl, ?_⟩⟩
    obtain ⟨h0, h1⟩ := spCs_at l i t hi
    have k0 := hcells (g := g) rfl _ _ h0
    have k1 := hcells (g := g) rfl _ _ h1
    rw [Addr.add_none] at k0 k1
    rw [Nat.zero_add] at k0 k1 ⊢
    exact ⟨k0, k1⟩
theorem one_new (w : World) (x y : Int) (t : TypeId) : ∀ j u, (spCs [(x, y)])[j]? = some u → (w.alloc (.cells #[.int .i64 x, .int .i64 y] t)).cell? ((⟨w.heap.size, 0, none⟩ : Addr).add j) = some u := by
  intro j u hu
  have hk : Blk (w.alloc (.cells #[.int .i64 x, .int .i64 y] t)) w.heap.size t (spCs [(x, y)]) := Blk.new _ _ _
  rw [Addr.add_none, Nat.zero_add, hk.cell]
  exact hu

set_option maxHeartbeats 3200000 in
theorem lwFew (A : Option Addr) (n c : Nat) (l : List Sp) (w : World) (h : Sps w A n l) :
    Calls Try.prog 27 #[.slice A n c] w fun e w' => ∃ v, e = .returned v ∧ Ow w' w.heap.size v (l.take 40) ∧ Below w.heap.size w w' := by
  obtain ⟨i1, hi1, hz0, hz1, hz2⟩ := info_parts sp_info
  have HS := Lib.hid h
  have HLN := Lib.hid h.len
  have HT := Lib.hid (fun x y W => lwTo x y W)
  clear h
  go_enter Try.func27, Try.ntmps27
  go_wp2
  go_loopw [3, 4] (fun v i wr => ∃ k : Nat, k ≤ n ∧ k ≤ 40 ∧ i = .int .i64 (k : Int) ∧ Ow wr w.heap.size v (l.take k) ∧ Below w.heap.size w wr) (fun _ i _ => n - (intOf i).toNat)
  case atStart => exact ⟨0, Nat.zero_le _, Nat.zero_le _, rfl, Ow.nil _ _, Below.refl _ _⟩
  case round =>
    obtain ⟨k, hk, hk40, rfl, ho, hb⟩ := hrel
    have KO := Lib.hid ho
    have KB := Lib.hid hb
    clear ho hb
    by_cases hlt : k < n ∧ k < 40
    · obtain ⟨hlt, hl40⟩ := hlt
      obtain ⟨bb, oo, x, y, rfl, hx, c0, c1⟩ := (Sps.below HS.out KB.out).at_ hlt
      have HX : Hid (l.take (k + 1) = l.take k ++ [(x, y)]) := by unfold Hid; rw [List.take_add_one, hx]; rfl
      have HK : Hid ((l.take k).length = k) := by unfold Hid; have := HLN.out; rw [List.length_take]; omega
      have e1 : (k : Int) < (n : Int) := by omega
      have e2 : (k : Int) < 40 := by omega
      clear hx
      go_wp2_with fail
      refine (HT.out x y _).mono ?_
      rintro e w2 ⟨rfl, hb⟩
      have O2 := Lib.hid ((KO.out.below hb).alloc (.cells #[.int .i64 x, .int .i64 y] 31))
      have B2 := Lib.hid ((bstep KB.out hb KB.out.size).alloc (bstep KB.out hb KB.out.size).size (.cells #[.int .i64 x, .int .i64 y] 31))
      have HNW := Lib.hid (one_new w2 x y 31)
      clear hb c0 c1 KO KB
      go_wp2_with (at_builtin; refine wpList_appendF rfl _ _ 45 rfl w.heap.size 31 i1 (.agg #[.int .i64 0, .int .i64 0]) 2 16 Try.underlying45 hi1 hz0 hz1 hz2 rfl (by omega) _ _ _ rfl O2.out ⟨w2.heap.size, 0, none⟩ 1 1 (spCs [(x, y)]) rfl rfl HNW.out (spC_one _) ?ab1 ?ab2 ?ab3 ?_)
      case ab1 => have := HK.out; unfold maxLen; omega
      case ab2 => have := HK.out; omega
      case ab3 => exact B2.out.size
      intro v' w3 hrow hgrow hvv
      have B3 := Lib.hid (B2.out.grown hgrow B2.out.size (fun k hk => (World.ownsRow.lt O2.out k hk).1))
      have O3 : Hid (Ow w3 w.heap.size v' (l.take (k + 1))) := by
        unfold Hid Ow
        rw [HX.out, spCs_append, List.length_append, List.length_take]
        exact hrow
      clear hrow hgrow hvv O2 B2 HNW
      go_wp2
      go_roundw
      case rel => exact ⟨k + 1, by omega, by omega, by go_num, O3.out, B3.out⟩
      case measure => simp [intOf]; omega
    · have HT40 : Hid (l.take k = l.take 40) := by
        unfold Hid
        have := HLN.out
        rcases (show k = n ∨ k = 40 by omega) with rfl | rfl
        · rw [List.take_of_length_le (by omega), List.take_of_length_le (by omega)]
        · rfl
      have hx : (decide ((k : Int) < (n : Int)) && decide ((k : Int) < 40)) = false := by
        simp
        omega
      by_cases hl1 : k < n
      · have e1 : (k : Int) < (n : Int) := by omega
        have e2 : ¬ (k : Int) < 40 := by omega
        clear hx
        go_wp2
        go_ret
        exact ⟨_, rfl, by rw [← HT40.out]; exact KO.out, KB.out⟩
      · have e1 : ¬ (k : Int) < (n : Int) := by omega
        clear hx
        go_wp2
        go_ret
        exact ⟨_, rfl, by rw [← HT40.out]; exact KO.out, KB.out⟩

set_option maxHeartbeats 3200000 in
theorem lwAll (A : Option Addr) (n c : Nat) (l : List Sp) (w : World) (h : Sps w A n l) (hn : n ≤ 1099511627776) :
    Calls Try.prog 31 #[.slice A n c] w fun e w' => ∃ v, e = .returned v ∧ Owr w' w.heap.size v (l) ∧ Below w.heap.size w w' := by
  obtain ⟨i1, hi1, hz0, hz1, hz2⟩ := info_parts rs_info
  have HS := Lib.hid h
  have HLN := Lib.hid h.len
  have HT := Lib.hid (fun x y W => lwOf x y W)
  clear h
  go_enter Try.func31, Try.ntmps31
  go_wp2
  go_loopw [3, 4] (fun v i wr => ∃ k : Nat, k ≤ n ∧ k ≤ n ∧ i = .int .i64 (k : Int) ∧ Owr wr w.heap.size v (l.take k) ∧ Below w.heap.size w wr) (fun _ i _ => n - (intOf i).toNat)
  case atStart => exact ⟨0, Nat.zero_le _, Nat.zero_le _, rfl, Owr.nil _ _, Below.refl _ _⟩
  case round =>
    obtain ⟨k, hk, hk40, rfl, ho, hb⟩ := hrel
    have KO := Lib.hid ho
    have KB := Lib.hid hb
    clear ho hb
    by_cases hlt : k < n
    · skip
      obtain ⟨bb, oo, x, y, rfl, hx, c0, c1⟩ := (Sps.below HS.out KB.out).at_ hlt
      have HX : Hid (l.take (k + 1) = l.take k ++ [(x, y)]) := by unfold Hid; rw [List.take_add_one, hx]; rfl
      have HK : Hid ((l.take k).length = k) := by unfold Hid; have := HLN.out; rw [List.length_take]; omega
      have e1 : (k : Int) < (n : Int) := by omega
      skip
      clear hx
      go_wp2_with fail
      refine (HT.out x y _).mono ?_
      rintro e w2 ⟨rfl, hb⟩
      have O2 := Lib.hid ((KO.out.below hb).alloc (.cells #[.int .i64 x, .int .i64 y] 30))
      have B2 := Lib.hid ((bstep KB.out hb KB.out.size).alloc (bstep KB.out hb KB.out.size).size (.cells #[.int .i64 x, .int .i64 y] 30))
      have HNW := Lib.hid (one_new w2 x y 30)
      clear hb c0 c1 KO KB
      go_wp2_with (at_builtin; refine wpList_appendF rfl _ _ 44 rfl w.heap.size 30 i1 (.agg #[.int .i64 0, .int .i64 0]) 2 16 Try.underlying44 hi1 hz0 hz1 hz2 rfl (by omega) _ _ _ rfl O2.out ⟨w2.heap.size, 0, none⟩ 1 1 (spCs [(x, y)]) rfl rfl HNW.out (spC_one _) ?ab1 ?ab2 ?ab3 ?_)
      case ab1 => have := HK.out; unfold maxLen; omega
      case ab2 => have := HK.out; omega
      case ab3 => exact B2.out.size
      intro v' w3 hrow hgrow hvv
      have B3 := Lib.hid (B2.out.grown hgrow B2.out.size (fun k hk => (World.ownsRow.lt O2.out k hk).1))
      have O3 : Hid (Owr w3 w.heap.size v' (l.take (k + 1))) := by
        unfold Hid Owr
        rw [HX.out, spCs_append, List.length_append, List.length_take]
        exact hrow
      clear hrow hgrow hvv O2 B2 HNW
      go_wp2
      go_roundw
      case rel => exact ⟨k + 1, by omega, by omega, by go_num, O3.out, B3.out⟩
      case measure => simp [intOf]; omega
    · have e1 : ¬ (k : Int) < (n : Int) := by omega
      have HT40 : Hid (l.take k = l) := by
        unfold Hid
        have := HLN.out
        rw [List.take_of_length_le (by omega)]
      go_wp2
      go_ret
      exact ⟨_, rfl, by rw [← HT40.out]; exact KO.out, KB.out⟩

theorem eqlS (w : World) (a b : Int) : (binOp .eql 31 (.agg #[.int .i64 a, .int .i64 b]) (.agg #[.int .i64 a, .int .i64 b])).run Try.prog w = .ok (.bool true) w := by go_simp
set_option maxHeartbeats 3200000 in
theorem known11 (w : World) :
    Calls Try.prog 10 #[] w fun e w' => e = .returned (.bool true) ∧ Below w.heap.size w w' := by
  have HQ : Hid (∀ x y W, (binOp .eql 31 (.agg #[.int .i64 x, .int .i64 y]) (.agg #[.int .i64 x, .int .i64 y])).run Try.prog W = .ok (.bool true) W) := fun x y W => eqlS W x y
  have h64 : ∀ s ∈ ([(5, 9), (1, 3), (4, 4)] : List Sp), I64s s := by
    intro s hs
    simp at hs
    rcases hs with rfl | rfl | rfl <;> exact ⟨i64_lit rfl, i64_lit rfl⟩
  have HN := Lib.hid (fun A c W hW => spNorm A 3 c [(5, 9), (1, 3), (4, 4)] W hW h64 (by omega))
  have h642 : ∀ s ∈ ([(1, 9)] : List Sp), I64s s := by
    intro s hs
    simp at hs
    subst hs; exact ⟨i64_lit rfl, i64_lit rfl⟩
  have HW := Lib.hid (fun A c W hW => spWithout A 1 c [(1, 9)] 3 4 W hW h642 (i64_lit rfl) (i64_lit rfl) (by omega))
  have U1 : Hid (∀ r, IsNorm [(5, 9), (1, 3), (4, 4)] r → r = [(1, 9)]) := by
    intro r hr
    refine isNorm_unique hr ⟨by simp, by simp⟩ (fun t => ?_)
    simp [Anyp, Inn]
    omega
  have U2 : Hid (∀ r, IsNorm (wList [(1, 9)] (3, 4)) r → r = [(1, 2), (5, 9)]) := by
    intro r hr
    refine isNorm_unique hr ⟨by simp, by simp⟩ (fun t => ?_)
    rw [anyp_wList h642]
    simp [Anyp, Inn]
    omega
  have KA := Lib.hid (fun R W => spAdd1 9223372036854775807 1 R W (i64_lit rfl) (i64_lit rfl))
  have EA : Hid (pls 9223372036854775807 1 = 9223372036854775807) := by unfold Hid pls sat; decide
  have KS := Lib.hid (fun W => spSub (-9223372036854775808) 1 W (i64_lit rfl) (i64_lit rfl))
  have ES : Hid (mns (-9223372036854775808) 1 = -9223372036854775808) := by unfold Hid mns sat; decide
  rw [EA.out] at KA
  rw [ES.out] at KS
  have K0 : Hid (Sps (w.alloc (.cells #[.int .i64 5, .int .i64 9, .int .i64 1, .int .i64 3, .int .i64 4, .int .i64 4] 31)) (some ⟨w.heap.size, 0, none⟩) 3 [(5, 9), (1, 3), (4, 4)]) := blk_sps (l := [(5, 9), (1, 3), (4, 4)]) (Blk.new w (spCs [(5, 9), (1, 3), (4, 4)]) _)
  have B0 := Lib.hid (below_alloc1 w (.cells #[.int .i64 5, .int .i64 9, .int .i64 1, .int .i64 3, .int .i64 4, .int .i64 4] 31))
  clear h64 h642 EA ES
  go_enter Try.func10, Try.ntmps10
  go_wp2_with fail
  refine (HN.out _ _ _ K0.out).mono ?_
  rintro e w1 ⟨v1, r1, rfl, hi, ho, hb⟩
  obtain rfl := U1.out r1 hi
  have B1 := Lib.hid (bstep B0.out hb B0.out.size)
  obtain ⟨A1, c1, rfl, hle1, hs1⟩ := ho.sps
  have S1 := Lib.hid hs1
  have KW := Lib.hid (HW.out A1 c1 w1 hs1)
  clear hi ho hb hs1 HN HW K0 B0
  simp only [List.length_cons, List.length_nil] at KW S1 hle1 ⊢
  go_wp2_with fail
  refine KW.out.mono ?_
  rintro e w2 ⟨v2, r2, rfl, hi, ho, hb⟩
  obtain rfl := U2.out r2 hi
  have B2 := Lib.hid (bstep B1.out hb B1.out.size)
  have S1b := Lib.hid (S1.out.below hb)
  obtain ⟨A2, c2, rfl, hle2, hs2⟩ := ho.sps
  have S2 := Lib.hid hs2
  clear hi ho hb hs2 KW B1 S1
  simp only [List.length_cons, List.length_nil] at S2 hle2 ⊢
  go_wp2_with fail
  refine (KA.out _ _ (Blk.one _ _ _)).mono ?_
  rintro e w3 ⟨rfl, rfl⟩
  go_wp2_with fail
  refine (KS.out _).mono ?_
  rintro e w4 ⟨rfl, hb⟩
  have B4 := Lib.hid (bstep (B2.out.alloc B2.out.size (.cells #[.int .i64 1] 3)) hb (B2.out.alloc B2.out.size (.cells #[.int .i64 1] 3)).size)
  have T1 := (S1b.out.below (below_alloc1 w2 (.cells #[.int .i64 1] 3))).below hb
  have T2 := (S2.out.below (below_alloc1 w2 (.cells #[.int .i64 1] 3))).below hb
  obtain ⟨b1, o1, x1, y1, rfl, hx1, c10, c11⟩ := T1.at_ (k := 0) (by omega)
  obtain ⟨b2, o2, x2, y2, rfl, hx2, c20, c21⟩ := T2.at_ (k := 1) (by omega)
  simp at hx1 hx2
  obtain ⟨rfl, rfl⟩ := hx1
  obtain ⟨rfl, rfl⟩ := hx2
  have q := HQ.out
  clear hb T1 T2 HQ
  simp only [Nat.zero_mul, Nat.one_mul, Nat.add_zero] at c10 c11 c20 c21
  go_wp2
  go_ret
  exact ⟨rfl, B4.out⟩

set_option maxHeartbeats 800000 in
theorem rfAny (A : Option Addr) (n c : Nat) (l : List Sp) (t : Int) (w : World) (h : Sps w A n l) (hn : n ≤ 1099511627776) :
    Calls Try.prog 33 #[.slice A n c, .int .i64 t] w fun e w' => e = .returned (.bool (decide (Anyp l t))) ∧ Below w.heap.size w w' := by
  have HS := Lib.hid h
  have HLN := Lib.hid h.len
  have HI := Lib.hid (fun x y W => rfIn x y t W)
  have fin : Hid (∀ q : Bool, (q = true ↔ Anyp l t) → Ending.returned (.bool q) = .returned (.bool (decide (Anyp l t)))) := by
    intro q hq; congr 2; by_cases h : Anyp l t <;> simp_all
  clear h
  go_enter Try.func33, Try.ntmps33
  go_wp2
  go_loopw [5] (fun i wr => ∃ k : Nat, k ≤ n ∧ i = .int .i64 (k : Int) ∧ (∀ j x, j < k → l[j]? = some x → ¬ Inn x t) ∧ Below w.heap.size w wr) (fun i _ => n - (intOf i).toNat)
  case atStart => exact ⟨0, Nat.zero_le _, rfl, fun j x hj => by omega, Below.refl _ _⟩
  case round =>
    obtain ⟨k, hk, rfl, hno, hb⟩ := hrel
    have HNO := Lib.hid hno
    have KB := Lib.hid hb
    clear hno hb
    by_cases hlt : k < n
    · obtain ⟨bb, oo, x, y, rfl, hx, c0, c1⟩ := (Sps.below HS.out KB.out).at_ hlt
      have HX := Lib.hid hx
      have e1 : (k : Int) < (n : Int) := by omega
      clear hx
      go_wp2_with fail
      refine (HI.out x y _).mono ?_
      rintro e w2 ⟨rfl, hb⟩
      have B2 := Lib.hid (bstep KB.out hb KB.out.size)
      clear hb c0 c1
      by_cases g : Inn (x, y) t
      · have g' : decide (Inn (x, y) t) = true := by simpa using g
        have HF : Hid (Anyp l t) := ⟨(x, y), List.mem_of_getElem? HX.out, g⟩
        rw [g']
        clear g g'
        go_wp2
        go_ret
        exact ⟨fin.out _ (by simp [HF.out]), B2.out⟩
      · have g' : decide (Inn (x, y) t) = false := by simpa using g
        have HNO2 : Hid (∀ j z, j < k + 1 → l[j]? = some z → ¬ Inn z t) := by
          intro j z hj hz
          rcases (show j < k ∨ j = k by omega) with q | rfl
          · exact HNO.out j z q hz
          · rw [HX.out] at hz; cases hz; exact g
        rw [g']
        clear g g'
        go_wp2
        go_roundw
        case rel => exact ⟨k + 1, by omega, by go_num, HNO2.out, B2.out⟩
        case measure => simp [intOf]; omega
    · have e1 : ¬ (k : Int) < (n : Int) := by omega
      have HF : Hid (¬ Anyp l t) := by
        rintro ⟨s, hs, hi⟩
        obtain ⟨j, hj, e⟩ := List.mem_iff_getElem.1 hs
        have := HLN.out
        exact HNO.out j s (by omega) (by rw [← e]; exact List.getElem?_eq_getElem hj) hi
      go_wp2
      go_ret
      exact ⟨fin.out _ (by simp [HF.out]), KB.out⟩
end Go.Proofs.Ytlmmoinmlcpmnaa

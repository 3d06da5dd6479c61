/-
  quittanceref01's Cursor.Do: bytes.
-/
import Derived.Test.YtcekglicepjjpaaPlayRef
namespace Go.Proofs.Ytcekglicepjjpaa
open Go.RowKit
set_option linter.unusedVariables false
set_option linter.unusedSimpArgs false

set_option maxRecDepth 100000 in
set_option maxHeartbeats 1600000 in
theorem rf4 (g k : Nat) (m : Nat) (N : Int) (l : List UInt8) (w : World) {s : Value} (h : Cur w g s l k) (hm : k + m ≤ l.length) (hN : N = m) :
    Calls Try.prog 13 #[.pointer (some ⟨g, 0, none⟩), .agg #[.int .i64 4, .int .i64 N]] w (RefOk w g s l 0 ((l.drop k).take m) 0 (k + m)) := by
  have HN := Lib.hid hN; clear hN
  obtain ⟨W, R, hW, hR, hS, hC, hO, hF, hgR, ng0, ng1⟩ := doW_open w 4 N h
  obtain ⟨A, n, c, hs, h0, h1, hf, hbs, hnc, hkn, hn⟩ := hC.open2
  have hEn := h.bs hs
  clear hs
  have HF := Lib.hid hF; clear hF
  go_enter Try.func13, Try.ntmps13
  go_wp2
  change Code.wp _ _ _ _ (doW w 4 N)
  rw [hW.out, ← hR.out]
  go_quiet (fail)
  have hF := HF.out.drewN nq
  have hC := hC.qt (Qt.of _ nq)
  have hO := hO.drewN nq
  have hS := (show R + 2 ≤ (W.drewN nq).heap.size from hS)
  have h0 := (show (W.drewN nq).cell? ⟨g, 0, none⟩ = some (.slice A n c) from h0)
  have h1 := (show (W.drewN nq).cell? ⟨g, 1, none⟩ = some (.int .i64 (k : Nat)) from h1)
  have hf := (show (W.drewN nq).frozen? ⟨g, 1, none⟩ = false from hf)
  have hbs := hbs.drewN nq
  clear HF
  generalize W.drewN nq = W1 at *
  obtain ⟨a0, a1, r0, r1, r2, z0, z1, z2⟩ := hF
  have hl := Lib.hid hbs.len
  have hN := HN.out
  subst hN
  have hm' : k + m ≤ n := by have := hl.out; omega
  have e1 : ¬ (m : Int) < 0 := by omega
  have e2 : ¬ (n : Int) - k < m := by omega
  have ne0 := World.new_ne W1 _ h0
  have ne1 := World.new_ne W1 _ h1
  have ne2 := World.new_ne W1 _ a1
  have hws : IntKind.i64.wrap ((k : Int) + m) = (k : Int) + m := by rw [IntKind.wrap_i64]; omega
  have q0 : (0 : Int) ≤ k := by omega
  have q1 : (k : Int) ≤ (k : Int) + m := by omega
  have q2 : (k : Int) + m ≤ c := by omega
  have q3 : ((k : Int) + m).toNat = k + m := by omega
  by_cases hck : c = k
  · have hE2 : Bs w A 0 ((l.drop k).take 0) := Bs.nil _ _
    obtain rfl : m = 0 := by omega
    have hck' := hck.symm
    subst hck'
    clear e1 e2 q0 q1 q2 q3 hws
    obtain rfl : n = k := by omega
    have hws : IntKind.i64.wrap (n : Int) = (n : Int) := by rw [IntKind.wrap_i64]; omega
    go_wp2
    go_region_held3 (fun w' => w'.cell? ⟨g, 0, none⟩ = some (.slice A n n) ∧ w'.cell? ⟨g, 1, none⟩ = some (.int .i64 n) ∧ w'.cell? ⟨R, 1, none⟩ = some (.int .i64 0)) (go_keep) (first | fail)
    generalize hW2 : (W1.alloc (.cells #[.int .i64 0, .slice A 0 0, .int .i64 0] 34)).drew = W2
    obtain ⟨hF2, hC2, hB2, x0, x1, x2⟩ := rf_new hW2.symm ⟨a0, a1, r0, r1, r2, z0, z1, z2⟩ hC
    have hO2 := hO.trans (Only.of_below hB2)
    clear hbs ne0 ne1 ne2 hws
    generalize hX : W1.heap.size = X at *
    have hgX : ¬ g = X := by omega
    have hRX : ¬ R + 1 = X := by omega
    have HX := Lib.hid hX
    clear hX hW2 h0 h1 hf a0 a1 r0 r1 r2 z0 z1 z2 hB2 hO
    obtain ⟨a0, a1, r0, r1, r2, z0, z1, z2⟩ := hF2
    obtain ⟨A2, n2, c2, h0, h1, hf, hbs2, hnc2, hkn2, hn2⟩ := hC2.open_
    go_wp2
    go_still_tail 10, (by kernel_rfl)
    go_wp2
    refine bodyPost_ret (v := .agg #[.int .i64 0, .slice A 0 0, .int .i64 0]) (by simp [results, Try.results13, go_sem, r0, r1, r2]) rfl ?_
    have hcs : Cur (W2.setCell ⟨g, 1, none⟩ (.int .i64 (n : Int))) g s l n := by
      have hj := hC2.set (j := n) (by have := hl.out; omega)
      rw [show (((n : Nat)) : Int) = (n : Int) by omega] at hj
      exact hj
    have hos := hO2.setCell (p := ⟨g, 1, none⟩) rfl (.int .i64 (n : Int))
    obtain ⟨t1, t2⟩ := rf_tail h hR.out hos hcs (.int .i64 0) (.slice A 0 0) (.int .i64 0)
    exact ⟨_, _, _, rfl, Bs.nil _ _, t1.drew, t2.drew⟩
  · have hE2 := hEn.piece hm'
    go_wp2
    go_region_held3 (fun w' => w'.cell? ⟨g, 0, none⟩ = some (.slice A n c) ∧ w'.cell? ⟨g, 1, none⟩ = some (.int .i64 k) ∧ w'.cell? ⟨R, 1, none⟩ = some (.int .i64 m)) (go_keep) (first | fail)
    generalize hW2 : (W1.alloc (.cells #[.int .i64 0, .slice (Option.map (fun x => x.add k) A) m (c - k), .int .i64 0] 34)).drew = W2
    obtain ⟨hF2, hC2, hB2, x0, x1, x2⟩ := rf_new hW2.symm ⟨a0, a1, r0, r1, r2, z0, z1, z2⟩ hC
    have hO2 := hO.trans (Only.of_below hB2)
    clear hbs ne0 ne1 ne2 hws q3
    generalize hX : W1.heap.size = X at *
    have hgX : ¬ g = X := by omega
    have hRX : ¬ R + 1 = X := by omega
    have HX := Lib.hid hX
    clear hX hW2 h0 h1 hf a0 a1 r0 r1 r2 z0 z1 z2 hB2 hO
    obtain ⟨a0, a1, r0, r1, r2, z0, z1, z2⟩ := hF2
    obtain ⟨A2, n2, c2, h0, h1, hf, hbs2, hnc2, hkn2, hn2⟩ := hC2.open_
    go_wp2
    go_still_tail 10, (by kernel_rfl)
    go_wp2
    refine bodyPost_ret (v := .agg #[.int .i64 0, .slice (Option.map (fun x => x.add k) A) m (c - k), .int .i64 0]) (by simp [results, Try.results13, go_sem, r0, r1, r2]) rfl ?_
    have hcs : Cur (W2.setCell ⟨g, 1, none⟩ (.int .i64 ((k : Int) + m))) g s l (k + m) := by
      have hj := hC2.set (j := (k + m)) (by have := hl.out; omega)
      rw [show ((((k + m) : Nat)) : Int) = ((k : Int) + m) by omega] at hj
      exact hj
    have hos := hO2.setCell (p := ⟨g, 1, none⟩) rfl (.int .i64 ((k : Int) + m))
    obtain ⟨t1, t2⟩ := rf_tail h hR.out hos hcs (.int .i64 0) (.slice (Option.map (fun x => x.add k) A) m (c - k)) (.int .i64 0)
    exact ⟨_, _, _, rfl, Bs.only hE2 t2.drew h.noByte, t1.drew, t2.drew⟩

set_option maxRecDepth 100000 in
set_option maxHeartbeats 1600000 in
theorem rf5 (g k : Nat) (m : Nat) (N : Int) (l : List UInt8) (w : World) {s : Value} (h : Cur w g s l k) (hm : k + m ≤ l.length) (hN : N = m) :
    Calls Try.prog 13 #[.pointer (some ⟨g, 0, none⟩), .agg #[.int .i64 5, .int .i64 N]] w (RefOk w g s l 0 ((l.drop k).take m) 0 (k + m)) := by
  have HN := Lib.hid hN; clear hN
  obtain ⟨W, R, hW, hR, hS, hC, hO, hF, hgR, ng0, ng1⟩ := doW_open w 5 N h
  obtain ⟨A, n, c, hs, h0, h1, hf, hbs, hnc, hkn, hn⟩ := hC.open2
  have hEn := h.bs hs
  clear hs
  have HF := Lib.hid hF; clear hF
  go_enter Try.func13, Try.ntmps13
  go_wp2
  change Code.wp _ _ _ _ (doW w 5 N)
  rw [hW.out, ← hR.out]
  go_quiet (fail)
  have hF := HF.out.drewN nq
  have hC := hC.qt (Qt.of _ nq)
  have hO := hO.drewN nq
  have hS := (show R + 2 ≤ (W.drewN nq).heap.size from hS)
  have h0 := (show (W.drewN nq).cell? ⟨g, 0, none⟩ = some (.slice A n c) from h0)
  have h1 := (show (W.drewN nq).cell? ⟨g, 1, none⟩ = some (.int .i64 (k : Nat)) from h1)
  have hf := (show (W.drewN nq).frozen? ⟨g, 1, none⟩ = false from hf)
  have hbs := hbs.drewN nq
  clear HF
  generalize W.drewN nq = W1 at *
  obtain ⟨a0, a1, r0, r1, r2, z0, z1, z2⟩ := hF
  have hl := Lib.hid hbs.len
  have hN := HN.out
  subst hN
  have hm' : k + m ≤ n := by have := hl.out; omega
  have e1 : ¬ (m : Int) < 0 := by omega
  have e2 : ¬ (n : Int) - k < m := by omega
  have ne0 := World.new_ne W1 _ h0
  have ne1 := World.new_ne W1 _ h1
  have ne2 := World.new_ne W1 _ a1
  have hws : IntKind.i64.wrap ((k : Int) + m) = (k : Int) + m := by rw [IntKind.wrap_i64]; omega
  have q0 : (0 : Int) ≤ k := by omega
  have q1 : (k : Int) ≤ (k : Int) + m := by omega
  have q2 : (k : Int) + m ≤ c := by omega
  have q3 : ((k : Int) + m).toNat = k + m := by omega
  by_cases hck : c = k
  · have hE2 : Bs w A 0 ((l.drop k).take 0) := Bs.nil _ _
    obtain rfl : m = 0 := by omega
    have hck' := hck.symm
    subst hck'
    clear e1 e2 q0 q1 q2 q3 hws
    obtain rfl : n = k := by omega
    have hws : IntKind.i64.wrap (n : Int) = (n : Int) := by rw [IntKind.wrap_i64]; omega
    go_wp2
    go_region_held3 (fun w' => w'.cell? ⟨g, 0, none⟩ = some (.slice A n n) ∧ w'.cell? ⟨g, 1, none⟩ = some (.int .i64 n) ∧ w'.cell? ⟨R, 1, none⟩ = some (.int .i64 0)) (go_keep) (first | fail)
    generalize hW2 : (W1.alloc (.cells #[.int .i64 0, .slice A 0 0, .int .i64 0] 34)).drew = W2
    obtain ⟨hF2, hC2, hB2, x0, x1, x2⟩ := rf_new hW2.symm ⟨a0, a1, r0, r1, r2, z0, z1, z2⟩ hC
    have hO2 := hO.trans (Only.of_below hB2)
    clear hbs ne0 ne1 ne2 hws
    generalize hX : W1.heap.size = X at *
    have hgX : ¬ g = X := by omega
    have hRX : ¬ R + 1 = X := by omega
    have HX := Lib.hid hX
    clear hX hW2 h0 h1 hf a0 a1 r0 r1 r2 z0 z1 z2 hB2 hO
    obtain ⟨a0, a1, r0, r1, r2, z0, z1, z2⟩ := hF2
    obtain ⟨A2, n2, c2, h0, h1, hf, hbs2, hnc2, hkn2, hn2⟩ := hC2.open_
    go_wp2
    go_still_tail 10, (by kernel_rfl)
    go_wp2
    refine bodyPost_ret (v := .agg #[.int .i64 0, .slice A 0 0, .int .i64 0]) (by simp [results, Try.results13, go_sem, r0, r1, r2]) rfl ?_
    have hcs : Cur (W2.setCell ⟨g, 1, none⟩ (.int .i64 (n : Int))) g s l n := by
      have hj := hC2.set (j := n) (by have := hl.out; omega)
      rw [show (((n : Nat)) : Int) = (n : Int) by omega] at hj
      exact hj
    have hos := hO2.setCell (p := ⟨g, 1, none⟩) rfl (.int .i64 (n : Int))
    obtain ⟨t1, t2⟩ := rf_tail h hR.out hos hcs (.int .i64 0) (.slice A 0 0) (.int .i64 0)
    exact ⟨_, _, _, rfl, Bs.nil _ _, t1.drew, t2.drew⟩
  · have hE2 := hEn.piece hm'
    go_wp2
    go_region_held3 (fun w' => w'.cell? ⟨g, 0, none⟩ = some (.slice A n c) ∧ w'.cell? ⟨g, 1, none⟩ = some (.int .i64 k) ∧ w'.cell? ⟨R, 1, none⟩ = some (.int .i64 m)) (go_keep) (first | fail)
    generalize hW2 : (W1.alloc (.cells #[.int .i64 0, .slice (Option.map (fun x => x.add k) A) m (c - k), .int .i64 0] 34)).drew = W2
    obtain ⟨hF2, hC2, hB2, x0, x1, x2⟩ := rf_new hW2.symm ⟨a0, a1, r0, r1, r2, z0, z1, z2⟩ hC
    have hO2 := hO.trans (Only.of_below hB2)
    clear hbs ne0 ne1 ne2 hws q3
    generalize hX : W1.heap.size = X at *
    have hgX : ¬ g = X := by omega
    have hRX : ¬ R + 1 = X := by omega
    have HX := Lib.hid hX
    clear hX hW2 h0 h1 hf a0 a1 r0 r1 r2 z0 z1 z2 hB2 hO
    obtain ⟨a0, a1, r0, r1, r2, z0, z1, z2⟩ := hF2
    obtain ⟨A2, n2, c2, h0, h1, hf, hbs2, hnc2, hkn2, hn2⟩ := hC2.open_
    go_wp2
    go_still_tail 10, (by kernel_rfl)
    go_wp2
    refine bodyPost_ret (v := .agg #[.int .i64 0, .slice (Option.map (fun x => x.add k) A) m (c - k), .int .i64 0]) (by simp [results, Try.results13, go_sem, r0, r1, r2]) rfl ?_
    have hcs : Cur (W2.setCell ⟨g, 1, none⟩ (.int .i64 ((k : Int) + m))) g s l (k + m) := by
      have hj := hC2.set (j := (k + m)) (by have := hl.out; omega)
      rw [show ((((k + m) : Nat)) : Int) = ((k : Int) + m) by omega] at hj
      exact hj
    have hos := hO2.setCell (p := ⟨g, 1, none⟩) rfl (.int .i64 ((k : Int) + m))
    obtain ⟨t1, t2⟩ := rf_tail h hR.out hos hcs (.int .i64 0) (.slice (Option.map (fun x => x.add k) A) m (c - k)) (.int .i64 0)
    exact ⟨_, _, _, rfl, Bs.only hE2 t2.drew h.noByte, t1.drew, t2.drew⟩

end Go.Proofs.Ytcekglicepjjpaa

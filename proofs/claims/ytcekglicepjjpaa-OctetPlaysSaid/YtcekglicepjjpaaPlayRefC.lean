/-
  quittanceref01's Cursor.Do: bytes.
-/
import Derived.Test.YtcekglicepjjpaaPlayRef
namespace Go.Proofs.Ytcekglicepjjpaa
open Go.RowKit
set_option linter.unusedVariables false
set_option linter.unusedSimpArgs false

set_option maxRecDepth 100000 in
set_option maxHeartbeats 1600000 in
theorem rf6 (g k : Nat) (N : Int) (l : List UInt8) (w : World) {s : Value} (h : Cur w g s l k) :
    Calls Try.prog 13 #[.pointer (some ⟨g, 0, none⟩), .agg #[.int .i64 6, .int .i64 N]] w (RefOk w g s l 0 (l.drop k) 0 l.length) := by
  obtain ⟨W, R, hW, hR, hS, hC, hO, hF, hgR, ng0, ng1⟩ := doW_open w 6 N h
  obtain ⟨A, n, c, hs, h0, h1, hf, hbs, hnc, hkn, hn⟩ := hC.open2
  have hEn := h.bs hs
  clear hs
  have HF := Lib.hid hF; clear hF
  go_enter Try.func13, Try.ntmps13
  go_wp2
  change Code.wp _ _ _ _ (doW w 6 N)
  rw [hW.out, ← hR.out]
  go_quiet (fail)
  have hF := HF.out.drewN nq
  have hC := hC.qt (Qt.of _ nq)
  have hO := hO.drewN nq
  have hS := (show R + 2 ≤ (W.drewN nq).heap.size from hS)
  have h0 := (show (W.drewN nq).cell? ⟨g, 0, none⟩ = some (.slice A n c) from h0)
  have h1 := (show (W.drewN nq).cell? ⟨g, 1, none⟩ = some (.int .i64 (k : Nat)) from h1)
  have hf := (show (W.drewN nq).frozen? ⟨g, 1, none⟩ = false from hf)
  have hbs := hbs.drewN nq
  clear HF
  generalize W.drewN nq = W1 at *
  obtain ⟨a0, a1, r0, r1, r2, z0, z1, z2⟩ := hF
  have hl := Lib.hid hbs.len
  have ne0 := World.new_ne W1 _ h0
  have ne1 := World.new_ne W1 _ h1
  have q0 : (0 : Int) ≤ k := by omega
  have q1 : (k : Int) ≤ n := by omega
  have q2 : (n : Int) ≤ c := by omega
  by_cases hck : c = k
  · have hck' := hck.symm
    subst hck'
    obtain rfl : n = k := by omega
    have hdn : Hid (l.drop n = []) := drop_end (by rw [hl.out]; omega)
    go_wp2
    go_region_held3 (fun w' => w'.cell? ⟨g, 0, none⟩ = some (.slice A n n) ∧ w'.cell? ⟨g, 1, none⟩ = some (.int .i64 n)) (go_keep) (first | fail)
    generalize hW2 : (W1.alloc (.cells #[.int .i64 0, .slice A 0 0, .int .i64 0] 34)).drew = W2
    obtain ⟨hF2, hC2, hB2, x0, x1, x2⟩ := rf_new hW2.symm ⟨a0, a1, r0, r1, r2, z0, z1, z2⟩ hC
    have hO2 := hO.trans (Only.of_below hB2)
    clear hbs ne0 ne1
    generalize hX : W1.heap.size = X at *
    have hgX : ¬ g = X := by omega
    have hRX : ¬ R + 1 = X := by omega
    have HX := Lib.hid hX
    clear hX hW2 h0 h1 hf a0 a1 r0 r1 r2 z0 z1 z2 hB2 hO
    obtain ⟨a0, a1, r0, r1, r2, z0, z1, z2⟩ := hF2
    obtain ⟨A2, n2, c2, h0, h1, hf, hbs2, hnc2, hkn2, hn2⟩ := hC2.open_
    go_wp2
    go_wp2
    refine bodyPost_ret (v := .agg #[.int .i64 0, .slice A 0 0, .int .i64 0]) (by simp [results, Try.results13, go_sem, r0, r1, r2]) rfl ?_
    have hl2 := hbs2.len
    have hcs : Cur (W2.setCell ⟨g, 1, none⟩ (.int .i64 (n2 : Int))) g s l l.length := by
      have hj := hC2.set (j := l.length) (by have := hl.out; omega)
      rw [show (((l.length : Nat)) : Int) = (n2 : Int) by omega] at hj
      exact hj
    have hos := hO2.setCell (p := ⟨g, 1, none⟩) rfl (.int .i64 (n2 : Int))
    obtain ⟨t1, t2⟩ := rf_tail h hR.out hos hcs (.int .i64 0) (.slice A 0 0) (.int .i64 0)
    rw [hdn.out]
    exact ⟨_, _, _, rfl, Bs.nil _ _, t1, t2⟩
  · have hE2 := hEn.rest hkn
    go_wp2
    go_region_held3 (fun w' => w'.cell? ⟨g, 0, none⟩ = some (.slice A n c) ∧ w'.cell? ⟨g, 1, none⟩ = some (.int .i64 k)) (go_keep) (first | fail)
    generalize hW2 : (W1.alloc (.cells #[.int .i64 0, .slice (Option.map (fun x => x.add k) A) (n - k) (c - k), .int .i64 0] 34)).drew = W2
    obtain ⟨hF2, hC2, hB2, x0, x1, x2⟩ := rf_new hW2.symm ⟨a0, a1, r0, r1, r2, z0, z1, z2⟩ hC
    have hO2 := hO.trans (Only.of_below hB2)
    clear hbs ne0 ne1
    generalize hX : W1.heap.size = X at *
    have hgX : ¬ g = X := by omega
    have hRX : ¬ R + 1 = X := by omega
    have HX := Lib.hid hX
    clear hX hW2 h0 h1 hf a0 a1 r0 r1 r2 z0 z1 z2 hB2 hO
    obtain ⟨a0, a1, r0, r1, r2, z0, z1, z2⟩ := hF2
    obtain ⟨A2, n2, c2, h0, h1, hf, hbs2, hnc2, hkn2, hn2⟩ := hC2.open_
    go_wp2
    go_wp2
    refine bodyPost_ret (v := .agg #[.int .i64 0, .slice (Option.map (fun x => x.add k) A) (n - k) (c - k), .int .i64 0]) (by simp [results, Try.results13, go_sem, r0, r1, r2]) rfl ?_
    have hl2 := hbs2.len
    have hcs : Cur (W2.setCell ⟨g, 1, none⟩ (.int .i64 (n2 : Int))) g s l l.length := by
      have hj := hC2.set (j := l.length) (by have := hl.out; omega)
      rw [show (((l.length : Nat)) : Int) = (n2 : Int) by omega] at hj
      exact hj
    have hos := hO2.setCell (p := ⟨g, 1, none⟩) rfl (.int .i64 (n2 : Int))
    obtain ⟨t1, t2⟩ := rf_tail h hR.out hos hcs (.int .i64 0) (.slice (Option.map (fun x => x.add k) A) (n - k) (c - k)) (.int .i64 0)
    exact ⟨_, _, _, rfl, hE2.only t2 h.noByte, t1, t2⟩

end Go.Proofs.Ytcekglicepjjpaa

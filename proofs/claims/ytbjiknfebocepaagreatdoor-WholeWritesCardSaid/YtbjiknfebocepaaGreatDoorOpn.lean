/-
  A whole's contents at a place of any bytes, as the document says them, and the calls of the reference that answer so.
-/
import Derived.Test.YtbjiknfebocepaaGreatDoorLen
namespace Go.Proofs.YtbjiknfebocepaaGreatDoor
open Go.RowKit
set_option linter.unusedVariables false
set_option linter.unusedSimpArgs false
set_option maxRecDepth 4000

theorem bign_nonneg (l : List UInt8) : ∀ (f p : Nat) (z : Int), 0 ≤ z → 0 ≤ bign l p f z := by
  intro f
  induction f with
  | zero => intro p z hz; exact hz
  | succ f ih => intro p z hz; unfold bign; exact ih _ _ (by have := nth_bound l p; omega)
theorem rLen_ok (l : List UInt8) (k : Nat) (h : (rLen l k).2.2 = 0) : 0 ≤ (rLen l k).1 ∧ (rLen l k).1 ≤ 16777216 ∧ (rLen l k).2.1 ≤ l.length := by
  have hb := nth_bound l k
  have hg := bign_nonneg l (nth l k - 128).toNat (k + 1) 0 (by omega)
  unfold rLen at *
  split at h
  · simp at h
  · split at h
    · rename_i h0 h1
      simp only [h0, h1, if_true, if_false]
      refine ⟨by omega, by omega, ?_⟩
      show k + 1 ≤ _; omega
    · split at h
      · simp at h
      · split at h
        · simp at h
        · split at h
          · simp at h
          · split at h
            · simp at h
            · rename_i h0 h1 h2 h3 h4 h5
              simp only [h0, h1, h2, h3, h4, h5, if_true, if_false]
              refine ⟨hg, by omega, ?_⟩
              show k + _ + 1 ≤ _; omega
theorem rHead_ok (l : List UInt8) (k : Nat) (h : (rHead l k).2.2.2 = 0) : 0 ≤ (rHead l k).2.1 ∧ (rHead l k).2.1 ≤ 16777216 ∧ (rHead l k).2.2.1 ≤ l.length := by
  unfold rHead at *
  split at h
  · rename_i h1
    split at h
    · rename_i h2
      simp only [h1, h2, if_true]
      exact rLen_ok _ _ h2
    · rename_i h2
      exact absurd h h2
  · rename_i h1
    exact absurd h h1

/-- The contents at place k if the tag is t, the place behind them, the error's number. -/
def rOpen (l : List UInt8) (k : Nat) (t : Tg) : List UInt8 × Nat × Int :=
  if (rHead l k).2.2.2 = 0 then
    (if (rHead l k).1 = t then
      (if (l.length : Int) - (rHead l k).2.2.1 < (rHead l k).2.1 then ([], k, 3)
       else ((l.drop (rHead l k).2.2.1).take (rHead l k).2.1.toNat, (rHead l k).2.2.1 + (rHead l k).2.1.toNat, 0))
     else ([], k, 4))
  else ([], k, (rHead l k).2.2.2)

def OpenV (w : World) (r : List UInt8 × Nat × Int) (e : Ending) (w' : World) : Prop :=
  ∃ A n c, e = .returned (.tuple #[.slice A n c, .int .i64 (r.2.1 : Int), .int .i64 r.2.2]) ∧ Bs w' A n r.1 ∧ n ≤ c ∧ Below w.heap.size w w'

set_option maxHeartbeats 1600000 in
theorem refOpen (A : Option Addr) (n c k : Nat) (x : Int) (l : List UInt8) (t : Tg) (w : World) (h : Bs w A n l) (hn : n ≤ 1099511627776) (hc : n ≤ c) (hk : k ≤ n) (hx : x = k) :
    Calls Tryz.prog 26 #[.slice A n c, .int .i64 x, t.v] w (OpenV w (rOpen l k t)) := by
  have hX := Lib.hid hx; clear hx
  have hok := rHead_ok l k
  have hl := Lib.hid h.len
  obtain ⟨tc, tn, tm⟩ := t
  unfold Tg.v
  go_enter Tryz.func26, Tryz.ntmps26
  go_wp2_with fail
  refine (refRead A n c k x l _ (h.below (below_alloc1 _ _)) hn hk hX.out).mono ?_
  rintro e w1 ⟨rfl, hb1⟩
  have ho := (Own3.new w _ _ _ _).below hb1
  have hB1 : Below w.heap.size w w1 := (below_alloc1 _ _).trans (Below.mono hb1 (by simp))
  have hH : Hid (rOpen l k ⟨tc, tn, tm⟩ = if (rHead l k).2.2.2 = 0 then
    (if (rHead l k).1 = ⟨tc, tn, tm⟩ then
      (if (l.length : Int) - (rHead l k).2.2.1 < (rHead l k).2.1 then ([], k, 3)
       else ((l.drop (rHead l k).2.2.1).take (rHead l k).2.1.toNat, (rHead l k).2.2.1 + (rHead l k).2.1.toNat, 0))
     else ([], k, 4))
    else ([], k, (rHead l k).2.2.2)) := rfl
  generalize rHead l k = T at *
  obtain ⟨⟨uc, un, um⟩, y, k1, e1⟩ := T
  simp only at hH hok
  unfold headV Tg.v
  clear hb1
  have ho2 := ho.below (below_alloc1 w1 (Obj.cells #[Value.int IntKind.i64 uc, Value.int IntKind.i64 un, Value.bool um] 34))
  have hB2 : Below w.heap.size w (w1.alloc (Obj.cells #[Value.int IntKind.i64 uc, Value.int IntKind.i64 un, Value.bool um] 34)) := hB1.alloc hB1.size _
  clear ho
  by_cases he : e1 = 0
  · subst he
    rw [if_pos rfl] at hH
    have hok := hok rfl
    obtain ⟨r0, r1, r2, f0, f1, f2⟩ := ho2
    by_cases ht : (⟨uc, un, um⟩ : Tg) = ⟨tc, tn, tm⟩
    · rw [if_pos ht] at hH
      cases ht
      obtain ⟨hy0, hy1, hk1⟩ := hok
      obtain ⟨yn, rfl⟩ : ∃ yn : Nat, y = yn := ⟨y.toNat, by omega⟩
      rw [hl.out] at hk1 hH
      simp only [Int.toNat_natCast] at hH
      by_cases h3 : n < k1 + yn
      · rw [if_pos (by omega)] at hH
        have h4 : (n : Int) - k1 < yn := by omega
        go_wp2
        rw [hH.out, hX.out]
        refine bodyPost_ret (v := .tuple #[.slice none 0 0, .int .i64 (k : Int), .int .i64 3]) (by simp [results, Tryz.results26, go_sem]) rfl ?_
        exact ⟨none, 0, 0, rfl, Bs.nil _ _, Nat.le_refl _, hB2⟩
      · rw [if_neg (by omega)] at hH
        have h4 : (yn : Int) ≤ (n : Int) - k1 := by omega
        have h5 : (k1 : Int) + yn ≤ c := by omega
        have hbs := h.below hB2
        go_wp2
        · rw [hH.out]
          refine bodyPost_ret (v := .tuple #[.slice A (k1 + yn - k1) 0, .int .i64 ((k1 + yn : Nat) : Int), .int .i64 0]) (by simp [results, Tryz.results26, go_sem]) rfl ?_
          have hcut := hbs.cut0 (i := k1) (j := k1 + yn) (by omega) (by omega) (by omega)
          rw [Nat.add_sub_cancel_left] at hcut ⊢
          exact ⟨_, _, _, rfl, hcut, by omega, hB2⟩
        · rw [hH.out]
          refine bodyPost_ret (v := .tuple #[.slice (Option.map (fun x => x.add k1) A) (k1 + yn - k1) (c - k1), .int .i64 ((k1 + yn : Nat) : Int), .int .i64 0]) (by simp [results, Tryz.results26, go_sem]) rfl ?_
          have hcut := hbs.cut (i := k1) (j := k1 + yn) (by omega) (by omega)
          rw [Nat.add_sub_cancel_left] at hcut ⊢
          exact ⟨_, _, _, rfl, hcut, by omega, hB2⟩
    · rw [if_neg ht] at hH
      clear hok
      have fin : ∀ (W : World) (v : Value), Below w.heap.size w W → v = .tuple #[.slice none 0 0, .int .i64 (k : Int), .int .i64 4] → OpenV w (rOpen l k ⟨tc, tn, tm⟩) (.returned v) W := by
        rintro W v hB rfl
        rw [hH.out]
        exact ⟨none, 0, 0, rfl, Bs.nil _ _, Nat.le_refl _, hB⟩
      have fin := Lib.hid fin
      by_cases a1 : uc = tc
      · by_cases a2 : un = tn
        · have a3 : ¬ um = tm := fun a3 => ht (by rw [a1, a2, a3])
          subst a1 a2
          clear ht
          go_wp2
          refine bodyPost_ret (v := .tuple #[.slice none 0 0, .int .i64 x, .int .i64 4]) (by simp [results, Tryz.results26, go_sem]) rfl ?_
          exact fin.out _ _ hB2 (by rw [hX.out])
        · clear ht
          subst a1
          go_wp2
          refine bodyPost_ret (v := .tuple #[.slice none 0 0, .int .i64 x, .int .i64 4]) (by simp [results, Tryz.results26, go_sem]) rfl ?_
          exact fin.out _ _ hB2 (by rw [hX.out])
      · clear ht
        go_wp2
        refine bodyPost_ret (v := .tuple #[.slice none 0 0, .int .i64 x, .int .i64 4]) (by simp [results, Tryz.results26, go_sem]) rfl ?_
        exact fin.out _ _ hB2 (by rw [hX.out])
  · rw [if_neg he] at hH
    have e2 : (e1 == 0) = false := by simp; exact he
    have e3 : (e1 != 0) = true := by simp; exact he
    go_wp2
    rw [hH.out, hX.out]
    refine bodyPost_ret (v := .tuple #[.slice none 0 0, .int .i64 (k : Int), .int .i64 e1]) (by simp [results, Tryz.results26, go_sem]) rfl ?_
    exact ⟨none, 0, 0, rfl, Bs.nil _ _, Nat.le_refl _, hB2⟩


/-- The contents of bytes that are one whole. -/
def rAlone (l : List UInt8) (t : Tg) : List UInt8 × Int :=
  if (rOpen l 0 t).2.2 = 0 then (if (rOpen l 0 t).2.1 < l.length then ([], 7) else ((rOpen l 0 t).1, 0)) else ([], (rOpen l 0 t).2.2)
def AloneV (w : World) (r : List UInt8 × Int) (e : Ending) (w' : World) : Prop :=
  ∃ A n c, e = .returned (.tuple #[.slice A n c, .int .i64 r.2]) ∧ Bs w' A n r.1 ∧ n ≤ c ∧ Below w.heap.size w w'

end Go.Proofs.YtbjiknfebocepaaGreatDoor

/-
  The contracts of the project's bits: ReadNull; Write, WriteBool, WriteNull, WriteOctets.
-/
import Derived.Test.YtdebekedilogoaaBs
namespace Go.Proofs.Ytdebekedilogoaa
open Go.RowKit
set_option linter.unusedVariables false
set_option linter.unusedSimpArgs false
set_option maxRecDepth 4000

set_option maxHeartbeats 3200000 in
theorem btReadNullG (g k : Nat) (l : List UInt8) (w : World) {s : Value} (h : Cur w g s l k) (hl : l.length ≤ 1099511) :
    Calls Try.prog 54 #[.pointer (some ⟨g, 0, none⟩), .int .i64 5, .func (.func 55) #[] #[]] w fun e w' => e = .returned (.tuple #[.agg #[], .int .i64 (rdNull l k).2]) ∧ Cur w' g s l (rdNull l k).1 ∧ Only g w w' := by
  have hg := h.lt
  have hlen := rOpen_len l k (tg5 5)
  have hge := rOpen_ge l k (tg5 5)
  have hno := rOpen_no l k (tg5 5)
  go_enter Try.func54, Try.ntmps54
  go_upto_region 2 with (fail)
  have b0 := below_alloc2 w (.cells #[] 92) (.cells #[] 92)
  have h0 := h.below b0
  have o0 : Only g w _ := Only.of_below b0
  have hz0 := b0.size
  generalize ((w.alloc (Obj.cells #[] 92)).alloc (Obj.cells #[] 92)) = W0 at *
  go_wp2_with fail
  refine (curAt g k l W0 h0).mono ?_
  rintro e w1 ⟨rfl, hw1⟩
  obtain rfl : W0 = w1 := hw1
  go_wp2_with fail
  refine (hdOf 5 W0).mono ?_
  rintro e w2 ⟨rfl, b2⟩
  have h2 := h0.below b2
  have o2 : Only g w w2 := o0.trans (Only.of_below b2)
  have hs2 := b2.size
  have hO := hdOpen g k l (tg5 5) w2 h2
  unfold OpenOk at hO
  go_wp2_with fail
  refine hO.mono ?_
  rintro e w3 ⟨p, rfl, hc3, o3, hp3, hp3'⟩
  have o3' := o2.trans o3
  clear hO h2 b2
  obtain ⟨T, hT0⟩ : ∃ T, rOpen l k (tg5 5) = T := ⟨_, rfl⟩
  rw [hT0] at hlen hge hno hc3 hp3 hp3' ⊢
  have HT := Lib.hid hT0
  clear hT0
  obtain ⟨ct, k', E⟩ := T
  simp only at hc3 hp3 hlen hge hno ⊢
  by_cases q : E = 0
  · subst q
    obtain ⟨g2, s2, rfl, hg2, hcur⟩ := hp3 rfl
    clear hp3 hno hp3'
    go_wp2_with fail
    refine (curRest g2 0 ct w3 hcur).mono ?_
    rintro e w4 ⟨A4, n4, c4, rfl, ho4, hc4, o4⟩
    simp only [List.drop_zero] at ho4
    have hcn := hcur.noByte
    have hc4' : Cur w4 g s l k' := hc3.only o4 (by omega) hcn
    have o4' : Only g w w4 := Only.grown o3' o4 (by intro x hx; cases hx; omega)
    have hs4 := ho4.bs.1
    have hk4 := ho4.bs.2
    have ho4' := ho4.mono (base' := w.heap.size) (by have := o3'.size; omega)
    have hn4 := hs4.len
    clear hcur hc3 o3' o3 hcn hc4 o2 ho4
    have hz4 := o4.size
    go_wp2_with fail
    refine (btParseNull A4 n4 c4 w4).mono ?_
    rintro e w5 ⟨rfl, b5⟩
    have hc5 := hc4'.below b5
    have o5 := o4'.trans (Only.of_below b5)
    by_cases hn0 : n4 = 0
    · have RB : Hid (rdNull l k = (k', 0)) := by unfold Hid rdNull; rw [HT.out]; simp only; rw [if_pos trivial, if_pos (by omega)]
      rw [if_pos hn0]
      have b6 := below_alloc1 w5 (.cells #[] 92)
      have hc6 := hc5.below b6
      have o6 := o5.trans (Only.of_below b6)
      go_wp2
      refine bodyPost_ret (v := .tuple #[.agg #[], .int .i64 0]) (by simp [results, Try.results54, go_sem]) rfl ?_
      rw [RB.out]
      exact ⟨rfl, hc6, o6⟩
    · have RB : Hid (rdNull l k = (k, 6)) := by unfold Hid rdNull; rw [HT.out]; simp only; rw [if_pos trivial, if_neg (by omega)]
      rw [if_neg hn0]
      have b6 := below_alloc1 w5 (.cells #[] 92)
      have hc6 := hc5.below b6
      have o6 := o5.trans (Only.of_below b6)
      go_wp2_with fail
      refine (curBack g k' k _ l _ hc6 hge rfl).mono ?_
      rintro e w7 ⟨rfl, hc7, o7⟩
      go_wp2
      refine bodyPost_ret (v := .tuple #[.agg #[], .int .i64 6]) (by simp [results, Try.results54, go_sem]) rfl ?_
      rw [RB.out]
      exact ⟨rfl, hc7, o6.trans o7⟩
  · have hT := hno q
    obtain ⟨rfl, rfl⟩ : ct = [] ∧ k' = k := by simpa using hT
    clear hno hp3 hT
    have e1 : (E != 0) = true := by simpa using q
    have e2 : (E == 0) = false := by simpa using q
    have RB : Hid (rdNull l k' = (k', E)) := by unfold Hid rdNull; rw [HT.out]; simp only; rw [if_neg q]
    go_wp2
    refine bodyPost_ret (v := .tuple #[.agg #[], .int .i64 E]) (by simp [results, Try.results54, go_sem]) rfl ?_
    rw [RB.out]
    exact ⟨rfl, hc3, o3'⟩

set_option maxHeartbeats 800000 in
theorem btReadNull (g k : Nat) (l : List UInt8) (w : World) {s : Value} (h : Cur w g s l k) (hl : l.length ≤ 1099511) :
    Calls Try.prog 33 #[.pointer (some ⟨g, 0, none⟩)] w fun e w' => e = .returned (.int .i64 (rdNull l k).2) ∧ Cur w' g s l (rdNull l k).1 ∧ Only g w w' := by
  have hG := btReadNullG g k l w h hl
  generalize rdNull l k = r at *
  go_enter Try.func33, Try.ntmps33
  go_wp2_with fail
  refine hG.mono ?_
  rintro e w1 ⟨rfl, hc, ho⟩
  have b6 := below_alloc1 w1 (.cells #[] 92)
  have hc6 := hc.below b6
  have o6 := ho.trans (Only.of_below b6)
  go_wp2
  go_ret
  exact ⟨rfl, hc6, o6⟩

theorem Bss.new1 {w : World} {A1 : Option Addr} {n1 c1 : Nat} {l1 : List UInt8} (t : TypeId) (h1 : Bs w A1 n1 l1) (k1 : n1 ≤ c1) :
    Bss (w.alloc (.cells #[.slice A1 n1 c1] t)) (some ⟨w.heap.size, 0, none⟩) 1 [l1] := by
  have hb := heap_alloc_new w (.cells #[.slice A1 n1 c1] t)
  refine ⟨rfl, fun i l hl => ?_⟩
  match i, hl with
  | 0, hl => cases hl; exact ⟨_, _, A1, n1, c1, rfl, by rw [blk_cell hb]; rfl, h1.below (below_alloc1 _ _), k1⟩
theorem short1 {b : List UInt8} {N : Nat} (h : b.length ≤ N) : Short N [b] := by
  intro k
  rcases k with _ | k
  · simpa [rowL] using h
  · simp [rowL]
/-- Wrap of one row. -/
theorem wrap1 (z : Int) (A : Option Addr) (n c : Nat) (b : List UInt8) (w : World) (hz : (tg5 z).rightB = true) (h : Bs w A n b) (hc : n ≤ c) (hb : b.length ≤ 16777216) :
    Calls Try.prog 58 #[(tg5 z).v, .slice (some ⟨w.heap.size, 0, none⟩) 1 1] (w.alloc (.cells #[.slice A n c] 22)) (NewBs2 (w.alloc (.cells #[.slice A n c] 22)) (wrapB (tg5 z) b)) := by
  have hW := hdWrap (tg5 z) _ 1 1 [b] _ hz (Bss.new1 22 h hc) (by omega) (by simpa using hb) (short1 (by omega))
  simp only [List.flatten_cons, List.flatten_nil, List.append_nil] at hW
  exact hW

theorem contS_len (u : Int) (l : List UInt8) : (contS u l).length = l.length + 1 := by simp [contS]

set_option maxHeartbeats 1600000 in
theorem btWriteNo (u : Int) (A : Option Addr) (n c : Nat) (l : List UInt8) (w : World) (h : Bs w A n l) (hn : n ≤ 1099511) (hr : rightS u l = false) :
    Calls Try.prog 36 #[.agg #[.int .i64 u, .slice A n c]] w fun e w' => e = .returned (.tuple #[.slice none 0 0, .int .i64 1]) ∧ Below w.heap.size w w' := by
  have C := btContentsNo u A n c l (w.alloc (.cells #[.int .i64 u, .slice A n c] 25)) (h.below (below_alloc1 _ _)) (by omega) hr
  go_enter Try.func36, Try.ntmps36
  go_wp2_with fail
  refine C.mono ?_
  rintro e w1 ⟨rfl, hb⟩
  have hB : Below w.heap.size w w1 := (below_alloc1 _ _).trans (Below.mono hb (by simp))
  go_wp2
  go_ret2
  exact ⟨rfl, hB⟩

set_option maxHeartbeats 1600000 in
theorem btWrite (u : Int) (A : Option Addr) (n c : Nat) (l : List UInt8) (w : World) (h : Bs w A n l) (hc : n ≤ c) (hn : n ≤ 1099511) (hr : rightS u l = true) :
    Calls Try.prog 36 #[.agg #[.int .i64 u, .slice A n c]] w (NewBs2 w (wrapB (tg5 3) (contS u l))) := by
  have C := btContents u A n c l (w.alloc (.cells #[.int .i64 u, .slice A n c] 25)) (h.below (below_alloc1 _ _)) hc (by omega) hr
  have hcl := contS_len u l
  have hl := h.len
  generalize contS u l = cl at *
  go_enter Try.func36, Try.ntmps36
  go_wp2_with fail
  refine C.mono ?_
  rintro e w1 ⟨A1, m1, c1, rfl, o1, hb⟩
  have b1 : Below w.heap.size w w1 := (below_alloc1 _ _).trans (Below.mono hb (by simp))
  go_wp2_with fail
  refine (hdOf 3 w1).mono ?_
  rintro e w2 ⟨rfl, hB2⟩
  have b2 := below_st b1 hB2
  have W := wrap1 3 A1 m1 c1 cl w2 (by decide) (o1.bs.1.below hB2) o1.bs.2 (by omega)
  clear C o1 hb
  go_wp2_with fail
  refine W.mono ?_
  rintro e w3 ⟨A3, m3, c3, rfl, ho3, hB3⟩
  have q3 := b2.trans (Below.mono ((below_alloc1 _ _).trans (Below.mono hB3 (by simp))) b2.size)
  have ho3' := ho3.mono (base' := w.heap.size) (by have := b2.size; simp; omega)
  go_wp2
  go_ret2
  exact ⟨_, _, _, rfl, ho3', q3⟩

set_option maxHeartbeats 1600000 in
theorem btWriteOctets (A : Option Addr) (n c : Nat) (b : List UInt8) (w : World) (h : Bs w A n b) (hc : n ≤ c) (hn : n ≤ 1099511) :
    Calls Try.prog 40 #[.slice A n c] w (NewBs2 w (wrapB (tg5 4) b)) := by
  have hl := h.len
  go_enter Try.func40, Try.ntmps40
  go_wp2_with fail
  refine (hdOf 4 w).mono ?_
  rintro e w2 ⟨rfl, b2⟩
  have W := wrap1 4 A n c b w2 (by decide) (h.below b2) hc (by omega)
  go_wp2_with fail
  refine W.mono ?_
  rintro e w3 ⟨A3, m3, c3, rfl, ho3, hB3⟩
  have q3 := b2.trans (Below.mono ((below_alloc1 _ _).trans (Below.mono hB3 (by simp))) b2.size)
  have ho3' := ho3.mono (base' := w.heap.size) (by have := b2.size; simp; omega)
  go_wp2
  go_ret2
  exact ⟨_, _, _, rfl, ho3', q3⟩

/-- The byte of a truth. -/
def tb (x : Bool) : UInt8 := if x then 255 else 0

set_option maxHeartbeats 1600000 in
theorem btWriteBool (x : Bool) (w : World) :
    Calls Try.prog 39 #[.bool x] w (NewBs w [1, 1, tb x]) := by
  cases x
  · go_enter Try.func39, Try.ntmps39
    go_wp2_with fail
    refine (hdOf 1 w).mono ?_
    rintro e w2 ⟨rfl, b2⟩
    have n2 := Bs.new1 w2 0 0 5 rfl
    have W := wrap1 1 _ 1 1 [0] _ (by decide) n2 (Nat.le_refl _) (by simp)
    rw [World.size_alloc] at W
    have b3 := b2.alloc b2.size (.cells #[.int .u8 0] 5)
    go_wp2_with fail
    refine W.mono ?_
    rintro e w3 ⟨A3, m3, c3, rfl, ho3, hB3⟩
    have q3 := b3.trans (Below.mono ((below_alloc1 _ _).trans (Below.mono hB3 (by simp))) b3.size)
    have ho3' := ho3.mono (base' := w.heap.size) (by have := b2.size; simp; omega)
    rw [show wrapB (tg5 1) [0] = [1, 1, tb false] by decide] at ho3'
    go_wp2
    go_ret
    exact ⟨_, _, _, rfl, ho3', q3⟩
  · go_enter Try.func39, Try.ntmps39
    go_wp2_with fail
    refine (hdOf 1 w).mono ?_
    rintro e w2 ⟨rfl, b2⟩
    have n2 := Bs.new1 w2 255 255 5 rfl
    have W := wrap1 1 _ 1 1 [255] _ (by decide) n2 (Nat.le_refl _) (by simp)
    rw [World.size_alloc] at W
    have b3 := b2.alloc b2.size (.cells #[.int .u8 255] 5)
    go_wp2_with fail
    refine W.mono ?_
    rintro e w3 ⟨A3, m3, c3, rfl, ho3, hB3⟩
    have q3 := b3.trans (Below.mono ((below_alloc1 _ _).trans (Below.mono hB3 (by simp))) b3.size)
    have ho3' := ho3.mono (base' := w.heap.size) (by have := b2.size; simp; omega)
    rw [show wrapB (tg5 1) [255] = [1, 1, tb true] by decide] at ho3'
    go_wp2
    go_ret
    exact ⟨_, _, _, rfl, ho3', q3⟩

set_option maxHeartbeats 1600000 in
theorem btWriteNull (w : World) :
    Calls Try.prog 41 #[] w (NewBs w [5, 0]) := by
  have hW := Lib.hid (fun W => hdWrap (tg5 5) none 0 0 [] W (by decide) (Bss.nil _ _) (by omega) (by simp) (by intro k; simp [rowL]))
  have hwr : Hid (wrapB (tg5 5) ([] : List (List UInt8)).flatten = [5, 0]) := by unfold Hid; decide
  go_enter Try.func41, Try.ntmps41
  go_wp2_with fail
  refine (hdOf 5 w).mono ?_
  rintro e w2 ⟨rfl, b2⟩
  go_wp2_with fail
  refine (hW.out w2).mono ?_
  rintro e w3 ⟨A3, m3, c3, rfl, ho3, hB3⟩
  have q3 := below_st b2 hB3
  have ho3' := ho3.mono (base' := w.heap.size) b2.size
  rw [hwr.out] at ho3'
  go_wp2
  go_ret
  exact ⟨_, _, _, rfl, ho3', q3⟩

end Go.Proofs.Ytdebekedilogoaa

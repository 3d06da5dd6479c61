/-
  The project's span, one by one: what needs no list of spans.
-/
import Derived.Test.YtlmmoinmlcpmnaaSb
import Derived.Deep.LoopGhost
namespace Go.Proofs.Ytlmmoinmlcpmnaa
open Go.RowKit
set_option linter.unusedVariables false
set_option linter.unusedSimpArgs false
set_option maxRecDepth 4000

set_option maxHeartbeats 800000 in
theorem spEmpty (a b : Int) (w : World) :
    Calls Try.prog 20 #[.agg #[.int .i64 a, .int .i64 b]] w fun e w' => e = .returned (.bool (decide (b < a))) ∧ Below w.heap.size w w' := by
  go_enter Try.func20, Try.ntmps20
  go_wp2
  go_ret
  exact ⟨rfl, below_alloc1 _ _⟩

set_option maxHeartbeats 800000 in
theorem spIn (a b t : Int) (w : World) :
    Calls Try.prog 21 #[.agg #[.int .i64 a, .int .i64 b], .int .i64 t] w fun e w' => e = .returned (.bool (decide (Inn (a, b) t))) ∧ Below w.heap.size w w' := by
  have fin : Hid (∀ q : Bool, (q = true ↔ Inn (a, b) t) → Ending.returned (.bool q) = .returned (.bool (decide (Inn (a, b) t)))) := by
    intro q hq; congr 2; by_cases h : Inn (a, b) t <;> simp_all
  go_enter Try.func21, Try.ntmps21
  by_cases g : a ≤ t
  · go_wp2
    go_ret
    exact ⟨fin.out _ (by unfold Inn; simp; omega), below_alloc1 _ _⟩
  · have g' : decide (a ≤ t) = false := by simpa using g
    go_wp2
    go_ret
    exact ⟨fin.out _ (by unfold Inn; simp; omega), below_alloc1 _ _⟩

set_option maxHeartbeats 800000 in
theorem spNone (w : World) :
    Calls Try.prog 43 #[] w fun e w' => e = .returned (.agg #[.int .i64 1, .int .i64 0]) ∧ Below w.heap.size w w' := by
  go_enter Try.func43, Try.ntmps43
  go_wp2
  refine ret2 Try.results43 (loadS _ _ _) rfl rfl (Blk.fst _ _ _ _) ?_
  exact ⟨rfl, below_alloc1 _ _⟩

set_option maxHeartbeats 800000 in
theorem spEnds (a : Int) (w : World) :
    Calls Try.prog 15 #[.int .i64 a] w fun e w' => e = .returned (.bool (decide (a = -9223372036854775808 ∨ a = 9223372036854775807))) ∧ w' = w := by
  have fin : Hid (∀ q : Bool, (q = true ↔ (a = -9223372036854775808 ∨ a = 9223372036854775807)) → Ending.returned (.bool q) = .returned (.bool (decide (a = -9223372036854775808 ∨ a = 9223372036854775807)))) := by
    intro q hq; congr 2; by_cases h : a = -9223372036854775808 ∨ a = 9223372036854775807 <;> simp_all
  go_enter Try.func15, Try.ntmps15
  by_cases g : a = -9223372036854775808
  · have g' : (a == -9223372036854775808) = true := by simpa using g
    clear g
    go_wp2
    go_ret
    exact ⟨fin.out _ (by simp at g'; simp [g']), rfl⟩
  · have g' : (a == -9223372036854775808) = false := by simpa using g
    clear g
    go_wp2
    go_ret
    exact ⟨fin.out _ (by simp at g'; simp [g']), rfl⟩

set_option maxHeartbeats 800000 in
theorem spStep (a n : Int) (w : World) (ha : I64 a) (hn : I64 n) :
    Calls Try.prog 42 #[.int .i64 a, .int .i64 n] w fun e w' => e = .returned (.int .i64 (pls a n)) ∧ w' = w := by
  have fin : Hid (∀ q : Int, q = pls a n → Ending.returned (.int .i64 q) = .returned (.int .i64 (pls a n))) := by rintro q rfl; rfl
  obtain ⟨a1, a2⟩ := ha
  obtain ⟨n1, n2⟩ := hn
  go_enter Try.func42, Try.ntmps42
  by_cases g : 0 < n
  · by_cases g2 : 9223372036854775807 - n < a
    · have hF : Hid (9223372036854775807 = pls a n) := by unfold Hid pls sat; (repeat' split) <;> omega
      go_wp2
      go_ret
      exact ⟨fin.out _ hF.out, rfl⟩
    · have hF : Hid (a + n = pls a n) := by unfold Hid pls sat; (repeat' split) <;> omega
      have g2' : decide (9223372036854775807 - n < a) = false := by simpa using g2
      have g3 : decide (n < 0) = false := by simp; omega
      go_wp2
      go_ret
      exact ⟨fin.out _ hF.out, rfl⟩
  · have g' : decide (0 < n) = false := by simpa using g
    by_cases g3 : n < 0
    · by_cases g2 : a < -9223372036854775808 - n
      · have hF : Hid (-9223372036854775808 = pls a n) := by unfold Hid pls sat; (repeat' split) <;> omega
        go_wp2
        go_ret
        exact ⟨fin.out _ hF.out, rfl⟩
      · have hF : Hid (a + n = pls a n) := by unfold Hid pls sat; (repeat' split) <;> omega
        have g2' : decide (a < -9223372036854775808 - n) = false := by simpa using g2
        go_wp2
        go_ret
        exact ⟨fin.out _ hF.out, rfl⟩
    · have hF : Hid (a + n = pls a n) := by unfold Hid pls sat; (repeat' split) <;> omega
      have g3' : decide (n < 0) = false := by simpa using g3
      go_wp2
      go_ret
      exact ⟨fin.out _ hF.out, rfl⟩

theorem fold_take {α β : Type} (f : β → α → β) (a : β) (l : List α) (k : Nat) (x : α) (h : l[k]? = some x) : (l.take (k + 1)).foldl f a = f ((l.take k).foldl f a) x := by
  rw [List.take_add_one, h]; simp
theorem late2 {w w1 : World} {t u : TypeId} {a b c d : Value} (h : Below ((w.alloc (.cells #[a, b] t)).alloc (.cells #[c, d] u)).heap.size ((w.alloc (.cells #[a, b] t)).alloc (.cells #[c, d] u)) w1) :
    Blk w1 w.heap.size t [a, b] ∧ Blk w1 (w.heap.size + 1) u [c, d] ∧ Below w.heap.size w w1 ∧ w.heap.size + 2 ≤ w1.heap.size := by
  refine ⟨((Blk.fst w a b t).alloc _).below h, (Blk.snd w _ c d u).below h, (below_alloc2 w _ _).trans (h.mono (by simp; omega)), ?_⟩
  have := h.size
  simp at this; omega

set_option maxHeartbeats 800000 in
theorem spCanonical (a b : Int) (w : World) :
    Calls Try.prog 44 #[.agg #[.int .i64 a, .int .i64 b]] w fun e w' => e = .returned (.agg #[.int .i64 (canon (a, b)).1, .int .i64 (canon (a, b)).2]) ∧ Below w.heap.size w w' := by
  have HE := Lib.hid (fun W => spEmpty a b W)
  have HN := Lib.hid (fun W => spNone W)
  have fin : Hid (∀ x y : Int, canon (a, b) = (x, y) → Ending.returned (.agg #[.int .i64 x, .int .i64 y]) = .returned (.agg #[.int .i64 (canon (a, b)).1, .int .i64 (canon (a, b)).2])) := by
    rintro x y h; rw [h]
  go_enter Try.func44, Try.ntmps44
  go_wp2_with fail
  refine (HE.out _).mono ?_
  rintro e w1 ⟨rfl, hb⟩
  obtain ⟨h1, h2, h3, h4⟩ := late2 hb
  have H2 := Lib.hid h2
  have H3 := Lib.hid h3
  have H4 := Lib.hid h4
  obtain ⟨⟨p0, p1⟩, _, _⟩ := h1.two
  clear hb h1 h2 h3 h4
  by_cases g : b < a
  · have hF : Hid (canon (a, b) = (1, 0)) := by unfold Hid canon; rw [if_pos g]
    go_wp2_with fail
    refine (HN.out _).mono ?_
    rintro e w2 ⟨rfl, hb⟩
    have H5 := Lib.hid (H2.out.below hb)
    have H6 := Lib.hid (bstep H3.out hb H3.out.size)
    have H7 : Hid (w1.heap.size ≤ w2.heap.size) := hb.size
    obtain ⟨⟨q0, q1⟩, q2, q3⟩ := H5.out.two
    clear hb
    go_wp2
    refine ret2 Try.results44 (loadS _ _ _) rfl rfl (H5.out.put _ _) ?_
    refine ⟨fin.out _ _ hF.out, below_set (below_set H6.out ?_ (Nat.le_succ _) _ _) ?_ (Nat.le_succ _) _ _⟩
    all_goals have := H4.out; have := H7.out; simp [World.setCell]; try omega
  · have hF : Hid (canon (a, b) = (a, b)) := by unfold Hid canon; rw [if_neg g]
    have g' : decide (b < a) = false := by simpa using g
    obtain ⟨⟨q0, q1⟩, q2, q3⟩ := H2.out.two
    go_wp2
    refine ret2 Try.results44 (loadS _ _ _) rfl rfl (H2.out.put _ _) ?_
    refine ⟨fin.out _ _ hF.out, below_set (below_set H3.out ?_ (Nat.le_succ _) _ _) ?_ (Nat.le_succ _) _ _⟩
    all_goals have := H4.out; simp [World.setCell]; try omega

set_option maxHeartbeats 800000 in
theorem spFoldI (a : Int) (A : Option Addr) (n c : Nat) (l : List Int) (w : World) (ha : I64 a) (h : Zs w A n l) (hl : ∀ z ∈ l, I64 z) (hn : n ≤ 1099511627776) :
    Calls Try.prog 41 #[.int .i64 a, .slice A n c, .func (.func 42) #[] #[]] w fun e w' => e = .returned (.int .i64 (l.foldl pls a)) ∧ w' = w := by
  have HS := Lib.hid (fun x y W hx hy => spStep x y W hx hy)
  have HZ := Lib.hid h
  have HL := Lib.hid hl
  have HA := Lib.hid ha
  have hlen := h.len
  clear h hl ha
  go_enter Try.func41, Try.ntmps41
  go_wp2
  go_loopw [0, 11] (fun s i wr => ∃ k : Nat, k ≤ n ∧ s = .int .i64 ((l.take k).foldl pls a) ∧ i = .int .i64 (k : Int) ∧ wr = w) (fun _ i _ => n - (intOf i).toNat)
  case atStart => exact ⟨0, Nat.zero_le _, by simp, rfl, rfl⟩
  case round =>
    obtain ⟨k, hk, rfl, rfl, rfl⟩ := hrel
    by_cases hlt : k < n
    · obtain ⟨b, o, rfl, hc⟩ := HZ.out.at_ hlt
      have hkl : k < l.length := by omega
      have hx : l[k]? = some (zth l k) := by unfold zth; simp [hkl]
      have HF := Lib.hid (fold_take pls a l k _ hx)
      have HI : Hid (I64 (zth l k)) := HL.out _ (List.mem_of_getElem? hx)
      have HJ : Hid (I64 ((l.take k).foldl pls a)) := fold_i64 _ _ HA.out
      have e1 : (k : Int) < (n : Int) := by omega
      clear hx
      generalize (l.take k).foldl pls a = z at *
      generalize zth l k = x at *
      go_wp2_with fail
      refine (HS.out _ _ _ HJ.out HI.out).mono ?_
      rintro e w' ⟨rfl, rfl⟩
      go_wp2
      go_roundw
      case rel => exact ⟨k + 1, by omega, by rw [HF.out], by go_num, trivial⟩
      case measure => simp [intOf]; omega
    · have e1 : ¬ (k : Int) < (n : Int) := by omega
      have : k = n := by omega
      subst this
      have HT : Hid (l.take k = l) := by unfold Hid; rw [← hlen]; simp
      rw [HT.out]
      clear hlen
      go_wp2
      go_ret
      exact ⟨rfl, rfl⟩
end Go.Proofs.Ytlmmoinmlcpmnaa

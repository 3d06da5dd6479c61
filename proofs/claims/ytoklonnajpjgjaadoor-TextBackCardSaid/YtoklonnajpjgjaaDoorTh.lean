/-
  The contracts of the project's text: compose.
-/
import Derived.Test.YtoklonnajpjgjaaDoorTg
namespace Go.Proofs.YtoklonnajpjgjaaDoor
open Go.RowKit Go.Shelf
set_option linter.unusedVariables false
set_option linter.unusedSimpArgs false
set_option maxRecDepth 4000
attribute [local go_sem] Oper.semAt_some

/-- The bytes of characters. -/
def encR (k : Int) (xs : List R32) : List UInt8 := xs.flatMap (fun x => encT k x.1)
theorem encR_snoc (k : Int) (xs : List R32) (x : R32) : encR k (xs ++ [x]) = encR k xs ++ encT k x.1 := by simp [encR]
theorem encR_length (k : Int) (xs : List R32) : (encR k xs).length ≤ 4 * xs.length := by
  induction xs with
  | nil => simp [encR]
  | cons x t ih =>
    have := encT_length k x.1
    simp only [encR, List.flatMap_cons, List.length_append, List.length_cons] at *
    omega
/-- What compose answers. -/
def CmpP (k : Int) (xs : List R32) (w : World) (e : Ending) (w' : World) : Prop :=
  (xs.all (fun x => hasT k x.1) = true → ∃ A n c, e = .returned (.tuple #[.agg #[.int .i64 k, .slice A n c], .int .i64 0]) ∧ Ob w' w.heap.size 5 (.slice A n c) (encR k xs)) ∧
  (xs.all (fun x => hasT k x.1) = false → e = .returned (.tuple #[.agg #[.int .i64 0, .slice none 0 0], .int .i64 6])) ∧ Below w.heap.size w w'

theorem ob_kept {W W' : World} {B : Nat} {e : TypeId} {v : Value} {l : List UInt8} {row : Option Nat} (h : Ob W B e v l) (hg : W.grownBy W' row) (hr : ∀ r, row = some r → ∃ o : Obj, W.heap[r]? = some o ∧ o.isCells = false) : Ob W' B e v l := by
  refine h.grown hg ?_
  rcases h.2 with ⟨rfl, _⟩ | ⟨g, cap, cur, rfl, _, hgb, _⟩
  · left; rfl
  · right
    intro e'
    obtain ⟨o, ho, hc⟩ := hr g (by rw [← e']; rfl)
    rw [hgb] at ho; cases ho; cases hc

/-- Between two rounds of compose. -/
def CmpI (k : Int) (w : World) (pre : List R32) (W : World) : Prop :=
  (∀ x ∈ pre, hasT k x.1 = true) ∧ ∃ A c, Blk W w.heap.size 3 [.int .i64 k] ∧ Blk W (w.heap.size + 1) 25 [.int .i64 0, .slice none 0 0] ∧ Blk W (w.heap.size + 1 + 1) 29 [.int .i64 0] ∧
    Blk W (w.heap.size + 1 + 1 + 1) 25 [.int .i64 k, .slice A (encR k pre).length c] ∧ Ob W w.heap.size 5 (.slice A (encR k pre).length c) (encR k pre)
theorem CmpI.own (k : Int) (w : World) : Own (CmpI k w) := by
  rintro s X Y row ⟨h1, A, c, h2, h3, h4, h5, h6⟩ hg hr
  exact ⟨h1, A, c, blk_own (β := Unit) _ _ _ () X Y row h2 hg hr, blk_own (β := Unit) _ _ _ () X Y row h3 hg hr, blk_own (β := Unit) _ _ _ () X Y row h4 hg hr, blk_own (β := Unit) _ _ _ () X Y row h5 hg hr, ob_kept h6 hg hr⟩

set_option maxRecDepth 100000 in
set_option maxHeartbeats 3200000 in
theorem txCompose (k : Int) (gf : Nat) (lb : Array Value) (xs : List R32) (N : Nat) (hN : N ≤ 1099511) (Kp : World → World → Prop) (w : World)
    (eg : ∀ args w, (callFunc gf args).run Tryd.prog w = .ok (.enter gf args) w)
    (hseq : SeqStopsK Fence.wide 4 Tryd.prog gf lb (fun x : R32 => #[Value.int .i32 x.1]) Kp (fun ys => ys = xs) (fun pre => ∃ r, pre ++ r = xs) N w)
    (hKt : ∀ {A B C : World}, Kp A B → Kp B C → Kp A C) (hKn : ∀ W W', Below w.heap.size W W' → Kp W W') :
    CallsIn Fence.wide 5 Tryd.prog 34 #[.int .i64 k, .func (.func gf) #[] lb] w (CmpP k xs w) := by
  have hH := Lib.hid (fun r W => txHas k r W)
  have hEn := Lib.hid (fun r hr v l B W ho hl hB => txEncode k r hr v l B W ho hl hB)
  refine callsIn_of_wp_marks Tryd.func34 rfl trivial ?_ rfl
  simp only [Tryd.ntmps34, List.size_toArray, List.length_cons, List.length_nil, Nat.reduceAdd, Nat.reduceSub, Array.replicate_succ, Array.replicate_zero, List.push_toArray, List.append_toArray, List.nil_append, List.cons_append]
  gi_wp2
  have b1 := below_alloc1 w (.cells #[.int .i64 k] 3)
  have n1 := Blk.new w [.int .i64 k] 3
  obtain ⟨W1, hW1⟩ : ∃ W1, w.alloc (.cells #[.int .i64 k] 3) = W1 := ⟨_, rfl⟩
  have s1 : W1.heap.size = w.heap.size + 1 := by rw [← hW1]; simp
  have n1 : Blk W1 w.heap.size 3 [.int .i64 k] := by rw [← hW1]; exact n1
  rw [hW1] at b1 ⊢
  have b2 := below_alloc1 W1 (.cells #[.int .i64 0, .slice none 0 0] 25)
  have n2 := Blk.new2 W1 (.int .i64 0) (.slice none 0 0) 25
  obtain ⟨W2, hW2⟩ : ∃ W2, W1.alloc (.cells #[.int .i64 0, .slice none 0 0] 25) = W2 := ⟨_, rfl⟩
  have s2 : W2.heap.size = w.heap.size + 1 + 1 := by rw [← hW2]; simp [s1]
  rw [hW2, s1] at n2
  rw [hW2] at b2 ⊢
  have b3 := below_alloc1 W2 (.cells #[.int .i64 0] 29)
  have n3 := Blk.new W2 [.int .i64 0] 29
  obtain ⟨W3, hW3⟩ : ∃ W3, W2.alloc (.cells #[.int .i64 0] 29) = W3 := ⟨_, rfl⟩
  have s3 : W3.heap.size = w.heap.size + 1 + 1 + 1 := by rw [← hW3]; simp [s2]
  have n3 : Blk W3 (w.heap.size + 1 + 1) 29 [.int .i64 0] := by rw [← hW3, ← s2]; exact n3
  rw [hW3] at b3 ⊢
  have b4 := below_alloc1 W3 (.cells #[.int .i64 k, .slice none 0 0] 25)
  have n4 := Blk.new2 W3 (.int .i64 k) (.slice none 0 0) 25
  obtain ⟨W4, hW4⟩ : ∃ W4, W3.alloc (.cells #[.int .i64 k, .slice none 0 0] 25) = W4 := ⟨_, rfl⟩
  have s4 : W4.heap.size = w.heap.size + 1 + 1 + 1 + 1 := by rw [← hW4]; simp [s3]
  rw [hW4, s3] at n4
  rw [hW4] at b4 ⊢
  have hB4 : Below w.heap.size w W4 := ((b1.trans (b2.mono (by omega))).trans (b3.mono (by omega))).trans (b4.mono (by omega))
  have n1 := ((n1.below b2).below b3).below b4
  have n2 := (n2.below b3).below b4
  have n3 := n3.below b4
  clear hW1 hW2 hW3 hW4 b1 b2 b3 b4 s1 s2 s3
  have hs4 := Lib.hid s4
  refine wpIn_rangeFunc_ownG rfl (by omega) (gf := gf) (lb := lb) rfl trivial eg hseq (fun h1 h2 => hKt h1 h2)
    (fun W1 lb o o' hlb ho hnc hnw => hKn _ _ (belowK_b (w := w) (Nat.le_refl _) W1 lb o o' (by omega) ho hnc hnw)) hB4 (fun _ => rfl)
    (fun pre W => CmpI k w pre W ∧ Below w.heap.size w W)
    (fun c pre W => ((c = .ret ∧ ∃ x ∈ pre, hasT k x.1 = false) ∧ Blk W (w.heap.size + 1) 25 [.int .i64 0, .slice none 0 0] ∧ Blk W (w.heap.size + 1 + 1) 29 [.int .i64 6]) ∧ Below w.heap.size w W)
    (OwnFrom.and (Own.from (CmpI.own k w) _) (ownFrom_below (Nat.le_refl _) (by omega)))
    (fun c => OwnFrom.and (Own.from (Own.and2 (says_own _) (Own.and2 (blk_own _ _ _) (blk_own _ _ _))) _) (ownFrom_below (Nat.le_refl _) (by omega)))
    ⟨⟨by simp, none, 0, n1, n2, n3, n4, Ob.nil _ _ _⟩, hB4⟩
    (fun x => { tmps := #[Value.int IntKind.i64 k, Value.func (Fn.func gf) #[] lb, Value.pointer (some ⟨w.heap.size, 0, none⟩), undef, Value.pointer (some ⟨w.heap.size + 1, 0, none⟩), Value.pointer (some ⟨w.heap.size + 1 + 1, 0, none⟩), Value.pointer (some ⟨w.heap.size + 1 + 1 + 1, 0, none⟩), Value.int IntKind.i32 x.1, Value.int IntKind.i64 k, Value.agg #[Value.int IntKind.i64 k, Value.slice none 0 0], Value.func (Fn.func gf) #[] lb, Value.int IntKind.i32 x.1, undef, undef, undef, undef, undef, undef, undef, undef, undef, undef, undef, undef], defers := [] }) ?assign ?body ?done ?stop
  case assign =>
    intro lp x W1 K hK
    gi_wp2
    exact hK
  case body =>
    rintro lp pre x W ⟨⟨hall, A, c, m1, m2, m3, m4, hob⟩, hBw⟩ hlt
    clear n1 n2 n3 n4 s4 hB4 hseq
    have q1 := m1.cell 0
    simp only [List.getElem?_cons_zero] at q1
    gi_wp2
    refine ⟨trivial, ?_⟩
    refine (CallsIn.inRound lp (callsIn_wide.2 (hH.out x.1 W))).mono ?_
    rintro e W' ⟨rfl, hb'⟩
    have hBw' := hBw.trans (Below.mono hb' hBw.size)
    have hkeep : KeepsFrom W4.heap.size W W' := KeepsFrom.of_grownBy ⟨hb'.os, hb'.tape, hb'.output, hb'.size, fun i hi _ => hb'.block i hi⟩ (row := none) (fun j e => by cases e)
    have m1 := m1.below hb'
    have m2 := m2.below hb'
    have m3 := m3.below hb'
    have m4 := m4.below hb'
    have hob := hob.below hb'
    have q1 := m1.cell 0
    simp only [List.getElem?_cons_zero] at q1
    cases hx : hasT k x.1
    · obtain ⟨q2, q3, q4, q5⟩ := m2.two
      have q6 := m3.cell 0
      have q7 := m3.free 0
      simp only [List.getElem?_cons_zero] at q6
      have q8 : ((W'.setCell ⟨w.heap.size + 1, 0, none⟩ (.int .i64 0)).setCell ⟨w.heap.size + 1, 1, none⟩ (.slice none 0 0)).cell? ⟨w.heap.size + 1 + 1, 0, none⟩ = some (.int .i64 0) := by
        have := (m3.putOther (r := w.heap.size + 1) (by omega) (.int .i64 0) (.slice none 0 0)).cell 0
        simpa using this
      gi_wp2
      refine ⟨hkeep.trans ((((KeepsOthers.setCell W' ⟨w.heap.size + 1, 0, none⟩ (.int .i64 0)).trans (KeepsOthers.setCell _ ⟨w.heap.size + 1, 1, none⟩ (.slice none 0 0))).trans (KeepsOthers.setCell _ ⟨w.heap.size + 1 + 1, 0, none⟩ (.int .i64 6))).from _), ⟨⟨rfl, x, by simp, hx⟩, ?_, ?_⟩, ?_⟩
      · exact (m2.put (.int .i64 0) (.slice none 0 0)).setOther (r := w.heap.size + 1 + 1) (by omega) 0 (.int .i64 6)
      · exact (m3.putOther (r := w.heap.size + 1) (by omega) (.int .i64 0) (.slice none 0 0)).set 0 (.int .i64 6)
      · exact ((hBw'.setCell (p := ⟨w.heap.size + 1, 0, none⟩) (by show w.heap.size ≤ w.heap.size + 1; omega) _).setCell (p := ⟨w.heap.size + 1, 1, none⟩) (by show w.heap.size ≤ w.heap.size + 1; omega) _).setCell (p := ⟨w.heap.size + 1 + 1, 0, none⟩) (by show w.heap.size ≤ w.heap.size + 1 + 1; omega) _
    · obtain ⟨q2, q3, q4, q5⟩ := m4.two
      have hEn' := hEn.out x.1 x.2 _ _ w.heap.size W' hob (by have h1 := encR_length k pre; omega) hBw'.size
      gi_wp2
      refine ⟨trivial, ?_⟩
      refine (CallsIn.inRound lp (callsIn_wide.2 hEn')).mono ?_
      rintro e W5 ⟨v', rfl, hob', o, hg'⟩
      have k1 : Blk W5 w.heap.size 3 [.int .i64 k] := (hg'.block _ (by have := m1.lt; simp; omega) (fun e => (m1.notRow hob (by decide)) e.symm)).trans (m1.alloc o)
      have k2 : Blk W5 (w.heap.size + 1) 25 [.int .i64 0, .slice none 0 0] := (hg'.block _ (by have := m2.lt; simp; omega) (fun e => (m2.notRow hob (by decide)) e.symm)).trans (m2.alloc o)
      have k3 : Blk W5 (w.heap.size + 1 + 1) 29 [.int .i64 0] := (hg'.block _ (by have := m3.lt; simp; omega) (fun e => (m3.notRow hob (by decide)) e.symm)).trans (m3.alloc o)
      have k4 : Blk W5 (w.heap.size + 1 + 1 + 1) 25 [.int .i64 k, .slice A (encR k pre).length c] := (hg'.block _ (by have := m4.lt; simp; omega) (fun e => (m4.notRow hob (by decide)) e.symm)).trans (m4.alloc o)
      have hbW : Below w.heap.size W W5 := (hob.alloc o).grew (w := W) ((Below.mono hb' hBw.size).alloc hBw'.size o) hBw.size hg'
      have hk5 : KeepsFrom W4.heap.size W W5 := by
        refine hkeep.trans (((KeepsOthers.alloc W' o).trans (KeepsOthers.of_grownBy hg' ?_)).from _)
        intro j oo hj hoo
        rcases (hob.alloc o).2 with ⟨hv, _⟩ | ⟨g, cap, cur, hv, _, hgb, _⟩
        · rw [hv] at hj; cases hj
        · rw [hv] at hj
          simp [Value.ownBlock] at hj
          subst hj
          rw [hgb] at hoo; cases hoo; rfl
      rw [← encR_snoc] at hob'
      obtain ⟨A', c', rfl, hle, hbs'⟩ := hob'.slice
      have q9 := k4.cell 1
      have q10 := k4.free 1
      simp only [List.getElem?_cons_succ, List.getElem?_cons_zero] at q9
      clear q1 q2 q3 q4 q5 m1 m2 m3 m4 hEn' hH hEn
      gi_wp2
      have hbS : Below w.heap.size W (W5.setCell ⟨w.heap.size + 1 + 1 + 1, 1, none⟩ (.slice A' (encR k (pre ++ [x])).length c')) := hbW.setCell (p := ⟨w.heap.size + 1 + 1 + 1, 1, none⟩) (by show w.heap.size ≤ w.heap.size + 1 + 1 + 1; omega) _
      refine ⟨hk5.trans ((KeepsOthers.setCell W5 ⟨w.heap.size + 1 + 1 + 1, 1, none⟩ _).from _), hKn _ _ hbS, ⟨?_, A', c', k1.setOther (by omega) _ _, k2.setOther (by omega) _ _, k3.setOther (by omega) _ _, k4.set 1 _, ?_⟩, hBw.trans hbS⟩
      · intro y hy
        rcases List.mem_append.1 hy with hy | hy
        · exact hall y hy
        · rw [List.mem_singleton.1 hy]; exact hx
      · exact ownsRow_setCell_other hob' (k4.notRow hob' (by decide)) _
  case done =>
    rintro D ys W1 hD rfl ⟨⟨hall, A, c, m1, m2, m3, m4, hob⟩, hBw⟩ hK
    obtain ⟨q2, q3, q4, q5⟩ := m4.two
    obtain ⟨p2, p3, p4, p5⟩ := m2.two
    have q6 := m3.cell 0
    have q7 := m3.free 0
    simp only [List.getElem?_cons_zero] at q6
    gi_wp2
    have hs := hs4.out
    have hK1 := (KeepsOthers.setCell W1 ⟨w.heap.size + 1, 0, none⟩ (.int .i64 k)).same D _ hK rfl
    have hK2 := (KeepsOthers.setCell _ ⟨w.heap.size + 1, 1, none⟩ (.slice A (encR k ys).length c)).same D _ hK1 rfl
    have hK3 := (KeepsOthers.setCell _ ⟨w.heap.size + 1 + 1, 0, none⟩ (.int .i64 0)).same D _ hK2 rfl
    have r2 := ((m2.put (.int .i64 k) (.slice A (encR k ys).length c)).setOther (r := w.heap.size + 1 + 1) (by omega) 0 (.int .i64 0)).putObj (D := D) (.deferred none) (by omega)
    have r3 := ((m3.putOther (r := w.heap.size + 1) (by omega) (.int .i64 k) (.slice A (encR k ys).length c)).set 0 (.int .i64 0)).putObj (D := D) (.deferred none) (by omega)
    have r4 := ownsRow_putObj (ownsRow_setCell_other (hob.put m2 (by decide) (.int .i64 k) (.slice A (encR k ys).length c)) ((m3.putOther (r := w.heap.size + 1) (by omega) (.int .i64 k) (.slice A (encR k ys).length c)).notRow (hob.put m2 (by decide) (.int .i64 k) (.slice A (encR k ys).length c)) (by decide)) (.int .i64 0)) (.deferred none) hK3 rfl
    have hBs := (((hBw.setCell (p := ⟨w.heap.size + 1, 0, none⟩) (by show w.heap.size ≤ w.heap.size + 1; omega) (.int .i64 k)).setCell (p := ⟨w.heap.size + 1, 1, none⟩) (by show w.heap.size ≤ w.heap.size + 1; omega) (.slice A (encR k ys).length c)).setCell (p := ⟨w.heap.size + 1 + 1, 0, none⟩) (by show w.heap.size ≤ w.heap.size + 1 + 1; omega) (.int .i64 0)).trans (belowK_b (w := w) (Nat.le_refl _) _ D _ (.deferred none) (by omega) hK3 rfl rfl)
    refine ⟨by simp, .inl ⟨_, _, rfl, run_takeDeferred hK3, ?_⟩⟩
    obtain ⟨c0, c1, _, _⟩ := r2.two
    have c2 := r3.cell 0
    simp only [List.set_cons_zero, List.getElem?_cons_zero] at c2
    have hallT : ys.all (fun x => hasT k x.1) = true := by rw [List.all_eq_true]; exact hall
    refine ⟨.tuple #[.agg #[.int .i64 k, .slice A (encR k ys).length c], .int .i64 0], ?_, fun _ => ⟨A, _, c, rfl, r4⟩, fun h => ?_, hBs⟩
    · simp [results, Tryd.f34, go_sem, c0, c1, c2]
    · rw [hallT] at h; cases h
  case stop =>
    rintro D c pre W1 hD hpre ⟨⟨⟨rfl, hex⟩, m2, m3⟩, hBw⟩ hK
    gi_wp2
    have hs := hs4.out
    have r2 := m2.putObj (D := D) (.deferred none) (by omega)
    have r3 := m3.putObj (D := D) (.deferred none) (by omega)
    have hBs := hBw.trans (belowK_b (w := w) (Nat.le_refl _) _ D _ (.deferred none) (by omega) hK rfl rfl)
    refine ⟨by simp, .inl ⟨_, _, rfl, run_takeDeferred hK, ?_⟩⟩
    obtain ⟨c0, c1, _, _⟩ := r2.two
    have c2 := r3.cell 0
    simp only [List.getElem?_cons_zero] at c2
    have hallF : xs.all (fun x => hasT k x.1) = false := by
      obtain ⟨r, hr⟩ := hpre
      obtain ⟨x, hx, hf⟩ := hex
      rw [List.all_eq_false]; exact ⟨x, by rw [← hr]; exact List.mem_append_left _ hx, by simp [hf]⟩
    refine ⟨.tuple #[.agg #[.int .i64 0, .slice none 0 0], .int .i64 6], ?_, fun h => ?_, fun _ => rfl, hBs⟩
    · simp [results, Tryd.f34, go_sem, c0, c1, c2]
    · rw [hallF] at h; cases h
end Go.Proofs.YtoklonnajpjgjaaDoor

/-
  The contracts of the project's text: Right.
-/
import Derived.Test.YtoklonnajpjgjaaDoorTd
namespace Go.Proofs.YtoklonnajpjgjaaDoor
open Go.RowKit Go.Shelf
set_option linter.unusedVariables false
set_option linter.unusedSimpArgs false
set_option maxRecDepth 4000
attribute [local go_sem] Oper.semAt_some

theorem blk_own {β : Type} (B : Nat) (t : TypeId) (cs : List Value) : Own (fun (_ : β) W => Blk W B t cs) := by
  rintro s X Y row h hg hrow
  exact (hg.block B h.lt (fun e' => by
    obtain ⟨o, ho, hc⟩ := hrow B e'.symm
    rw [show X.heap[B]? = _ from h] at ho; cases ho; cases hc)).trans h
theorem says_own {β : Type} (p : β → Prop) : Own (fun (s : β) (_ : World) => p s) := fun s X Y row h hg hrow => h
theorem Own.and2 {β : Type} {I I' : β → World → Prop} (h : Own I) (h' : Own I') : Own (fun s W => I s W ∧ I' s W) := fun s W W' row hs hg hr => ⟨h s W W' row hs.1 hg hr, h' s W W' row hs.2 hg hr⟩
theorem Blk.putObj {w : World} {g D : Nat} {t : TypeId} {cs : List Value} (h : Blk w g t cs) (o : Obj) (hne : g ≠ D) : Blk (w.putObj D o) g t cs := (World.putObj_heap_other hne).trans h

theorem txRunesStops (n : Nat) (hn : 1 ≤ n) (E n₀ : Nat) (u : Int) (A : Option Addr) (m c : Nat) (l : List UInt8) (hm : m ≤ 1099511) (hmc : m ≤ c) (hn2 : 2 < n₀) (w : World) (hE : Blk w E 25 [.int .i64 u, .slice A m c]) (hS : BsN n₀ w A m l) (hT : Tb w) (hn₀ : n₀ ≤ w.heap.size) :
    SeqStopsK Fence.wide n Tryd.prog 52 #[.pointer (some ⟨E, 0, none⟩)] (fun x : R32 => #[Value.int .i32 x.1]) (Kp6 n₀ E) (fun ys => ys = runesR u l) (fun pre => ∃ r, pre ++ r = runesR u l) (runesR u l).length w :=
  fun lp J Jx W hW hJ _ hY h0 => txRunes1 n hn lp E n₀ u A m c l hm hmc hn2 J Jx hY W hJ (hE.below hW) (hS.keep (hW.mono hn₀)) (hT.below hW) (Nat.le_trans hn₀ hW.size) h0

theorem all_val (k : Int) (l : List UInt8) : (runesT k l).all (hasT k) = (runesR k l).all (fun x => hasT k x.1) := by
  rw [← runesR_val, List.all_map]; rfl

set_option maxHeartbeats 1600000 in
theorem txRightNo (k : Int) (A : Option Addr) (m c : Nat) (w : World) (hk : isK k = false) :
    Calls Tryd.prog 16 #[.agg #[.int .i64 k, .slice A m c]] w fun e w' => e = .returned (.bool false) ∧ Below w.heap.size w w' := by
  have hK := Lib.hid (fun W => txIsKind k W)
  rw [hk] at hK
  have hO := (Blk.new2 w (.int .i64 k) (.slice A m c) 25).alloc (.cells #[.bool false] 4)
  have hR := Blk.new (w.alloc (.cells #[.int .i64 k, .slice A m c] 25)) [.bool false] 4
  rw [World.size_alloc] at hR
  obtain ⟨o0, o1, _, _⟩ := hO.two
  go_enter Tryd.func16, Tryd.ntmps16
  go_wp2_with fail
  refine (hK.out _).mono ?_
  rintro e w1 ⟨rfl, hb⟩
  have hR1 := hR.below hb
  have hB : Below w.heap.size w w1 := (below_alloc2 _ _ _).trans (Below.mono hb (by simp; omega))
  have r0 := hR1.cell 0
  have r1 := hR1.free 0
  simp only [List.getElem?_cons_zero] at r0
  have hR2 := hR1.set 0 (.bool false)
  have r2 := hR2.cell 0
  simp only [List.set_cons_zero, List.getElem?_cons_zero] at r2
  have hB2 : Below w.heap.size w (w1.setCell ⟨w.heap.size + 1, 0, none⟩ (.bool false)) := hB.setCell (p := ⟨w.heap.size + 1, 0, none⟩) (by show w.heap.size ≤ w.heap.size + 1; omega) _
  clear hO hR hb hK o0 o1 hR1 hR2
  go_wp2
  refine bodyPost_ret (v := .bool false) (by simp [results, Tryd.f16, go_sem, r2]) rfl ?_
  exact ⟨rfl, hB2⟩

set_option maxRecDepth 100000 in
set_option maxHeartbeats 3200000 in
theorem txRightYes (k : Int) (A : Option Addr) (m c : Nat) (l : List UInt8) (w : World) (hT : Tb w) (h : Bs w A m l) (hm : m ≤ 1099511) (hmc : m ≤ c) (hk : isK k = true) :
    Calls Tryd.prog 16 #[.agg #[.int .i64 k, .slice A m c]] w fun e w' => e = .returned (.bool ((runesT k l).all (hasT k))) ∧ Below w.heap.size w w' := by
  have hK := Lib.hid (fun W => txIsKind k W)
  rw [hk] at hK
  rw [all_val]
  have hO := (Blk.new2 w (.int .i64 k) (.slice A m c) 25).alloc (.cells #[.bool false] 4)
  have hR := Blk.new (w.alloc (.cells #[.int .i64 k, .slice A m c] 25)) [.bool false] 4
  rw [World.size_alloc] at hR
  obtain ⟨o0, o1, _, _⟩ := hO.two
  have hH := Lib.hid (fun r W => txHas k r W)
  refine (callsIn_wide (n := 5)).1 ?_
  refine callsIn_of_wp_marks Tryd.func16 rfl trivial ?_ rfl
  simp only [Tryd.ntmps16, List.size_toArray, List.length_cons, List.length_nil, Nat.reduceAdd, Nat.reduceSub, Array.replicate_succ, Array.replicate_zero, List.push_toArray, List.append_toArray, List.nil_append, List.cons_append]
  gi_wp2
  refine ⟨trivial, ?_⟩
  refine (callsIn_wide.2 (hK.out _)).mono ?_
  rintro e w1 ⟨rfl, hb⟩
  have hB : Below w.heap.size w w1 := (below_alloc2 _ _ _).trans (Below.mono hb (by simp; omega))
  have hO1 := hO.below hb
  have hR1 := hR.below hb
  have hS1 := h.below hB
  have hT1 := hT.below hB
  have hs1 : w.heap.size + 2 ≤ w1.heap.size := by have := hb.size; simp at this; omega
  obtain ⟨o0, o1, _, _⟩ := hO1.two
  clear hO hR hb hK h hT
  gi_wp2
  refine ⟨trivial, ?_⟩
  refine (txRunes _ k A m c _).mono ?_
  rintro e w3 ⟨rfl, rfl⟩
  gi_wp2
  have hEv := Blk.new2 w1 (.int .i64 k) (.slice A m c) 25
  have hB0 : Below w1.heap.size w1 (w1.alloc (.cells #[.int .i64 k, .slice A m c] 25)) := below_alloc1 _ _
  have hSN := (BsN.of hS1).keep hB0
  have hO2 := hO1.below hB0
  have hR2 := hR1.below hB0
  have hT2 := hT1.below hB0
  have h2n : 2 < w1.heap.size := hT1.lt
  have hB2 : Below w.heap.size w (w1.alloc (.cells #[.int .i64 k, .slice A m c] 25)) := hB.trans (Below.mono hB0 hB.size)
  have hXR : ∀ ys : List R32, ys = runesR k l → ((∀ x ∈ ys, hasT k x.1 = true) → (runesR k l).all (fun x => hasT k x.1) = true) := by
    rintro ys rfl hy; rw [List.all_eq_true]; exact hy
  have hXN : ∀ pre : List R32, (∃ r, pre ++ r = runesR k l) → (∃ x ∈ pre, hasT k x.1 = false) → (runesR k l).all (fun x => hasT k x.1) = false := by
    rintro pre ⟨r, hr⟩ ⟨x, hx, hf⟩
    rw [List.all_eq_false]; exact ⟨x, by rw [← hr]; exact List.mem_append_left _ hx, by simp [hf]⟩
  generalize hv : (runesR k l).all (fun x => hasT k x.1) = v at hXR hXN ⊢
  refine wpIn_rangeFunc_ownG rfl (by omega) (gf := 52) (lb := #[.pointer (some ⟨w1.heap.size, 0, none⟩)]) rfl trivial (enters_of Tryd.func52 (by kernel_rfl) rfl)
    (txRunesStops 4 (by omega) w1.heap.size w1.heap.size k A m c l hm hmc h2n _ hEv hSN hT2 hB0.size) Kp6.trans
    (fun W1 lb o o' hlb ho hnc hnw => ⟨belowK_b (w := w1) (Nat.le_refl _) W1 lb o o' (by simp at hlb; omega) ho hnc hnw, World.putObj_heap_other (by simp at hlb; omega)⟩) (Below.refl _ _) (fun _ => rfl)
    (fun pre W => ((((∀ x ∈ pre, hasT k x.1 = true) ∧ Blk W w.heap.size 25 [.int .i64 k, .slice A m c]) ∧ Blk W (w.heap.size + 1) 4 [.bool false]) ∧ Blk W w1.heap.size 25 [.int .i64 k, .slice A m c]) ∧ (Below w.heap.size w W ∧ w1.heap.size ≤ W.heap.size))
    (fun c pre W => ((c = .ret ∧ ∃ x ∈ pre, hasT k x.1 = false) ∧ Blk W (w.heap.size + 1) 4 [.bool false]) ∧ Below w.heap.size w W)
    (OwnFrom.and (Own.from (Own.and2 (Own.and2 (Own.and2 (says_own _) (blk_own _ _ _)) (blk_own _ _ _)) (blk_own _ _ _)) _) (OwnFrom.and (ownFrom_below (Nat.le_refl _) (by simp; omega)) (Own.from (fun s X Y row hx hg hr => Nat.le_trans hx hg.size) _)))
    (fun c => OwnFrom.and (Own.from (Own.and2 (says_own _) (blk_own _ _ _)) _) (ownFrom_below (Nat.le_refl _) (by simp; omega)))
    ⟨⟨⟨⟨by simp, hO2⟩, hR2⟩, hEv⟩, hB2, hB0.size⟩
    (fun x => { tmps := #[Value.agg #[Value.int IntKind.i64 k, Value.slice A m c], Value.pointer (some ⟨w.heap.size, 0, none⟩), Value.pointer (some ⟨w.heap.size + 1, 0, none⟩), Value.int IntKind.i32 x.1, Value.pointer (some ⟨w.heap.size, 0, none⟩), Value.int IntKind.i64 k, Value.bool true, Value.bool false, Value.agg #[Value.int IntKind.i64 k, Value.slice A m c], Value.func (.func 52) #[] #[Value.pointer (some ⟨w1.heap.size, 0, none⟩)], Value.int IntKind.i32 x.1, undef, undef, undef, undef, undef], defers := [] }) ?assign ?body ?done ?stop
  case assign =>
    intro lp x W1 K hK
    gi_wp2
    exact hK
  case body =>
    rintro lp pre x W ⟨⟨⟨⟨hall, hOw⟩, hRw⟩, hEw⟩, hBw, hszw⟩ hlt
    clear hO1 hR1 hO2 hR2 hEv hB2 hB0 o0 o1 hSN hT2 hT1 hS1 hXR hXN
    obtain ⟨o0, o1, _, _⟩ := hOw.two
    gi_wp2
    refine ⟨trivial, ?_⟩
    refine (CallsIn.inRound lp (callsIn_wide.2 (hH.out x.1 W))).mono ?_
    rintro e W' ⟨rfl, hb'⟩
    have hRw' := hRw.below hb'
    have r0 := hRw'.cell 0
    have r1 := hRw'.free 0
    simp only [List.getElem?_cons_zero] at r0
    have hBw' := hBw.trans (Below.mono hb' hBw.size)
    have hkeep : KeepsFrom (w1.alloc (.cells #[.int .i64 k, .slice A m c] 25)).heap.size W W' := KeepsFrom.of_grownBy ⟨hb'.os, hb'.tape, hb'.output, hb'.size, fun i hi _ => hb'.block i hi⟩ (row := none) (fun j e => by cases e)
    cases hx : hasT k x.1
    · gi_wp2
      exact ⟨hkeep.trans ((KeepsOthers.setCell W' ⟨w.heap.size + 1, 0, none⟩ (.bool false)).from _), ⟨⟨rfl, x, by simp, hx⟩, hRw'.set 0 (.bool false)⟩, hBw'.setCell (p := ⟨w.heap.size + 1, 0, none⟩) (by show w.heap.size ≤ w.heap.size + 1; omega) _⟩
    · gi_wp2
      refine ⟨hkeep, ⟨Below.mono hb' (by omega), hb'.block _ hEw.lt⟩, ⟨⟨⟨⟨?_, hOw.below hb'⟩, hRw'⟩, hEw.below hb'⟩, hBw', Nat.le_trans hszw hb'.size⟩⟩
      intro y hy
      rcases List.mem_append.1 hy with hy | hy
      · exact hall y hy
      · rw [List.mem_singleton.1 hy]; exact hx
  case done =>
    rintro D ys W1 hD hys ⟨⟨⟨⟨hall, hOw⟩, hRw⟩, hEw⟩, hBw, hszw⟩ hK
    have hv' := hXR ys hys hall
    have r0 := hRw.cell 0
    have r1 := hRw.free 0
    simp only [List.getElem?_cons_zero] at r0
    gi_wp2
    have hD' : w.heap.size + 1 ≠ D := by simp at hD; omega
    have hK' := (KeepsOthers.setCell W1 ⟨w.heap.size + 1, 0, none⟩ (.bool true)).same D _ hK rfl
    have hBs : Below w.heap.size w (W1.setCell ⟨w.heap.size + 1, 0, none⟩ (.bool true)) := hBw.setCell (p := ⟨w.heap.size + 1, 0, none⟩) (by show w.heap.size ≤ w.heap.size + 1; omega) _
    refine ⟨by simp, .inl ⟨_, _, rfl, run_takeDeferred hK', ?_⟩⟩
    have hc := ((hRw.set 0 (.bool true)).putObj (.deferred none) hD').cell 0
    simp only [List.set_cons_zero, List.getElem?_cons_zero] at hc
    refine ⟨.bool true, by simp [results, Tryd.f16, go_sem, hc], by rw [hv, hv'], ?_⟩
    exact hBs.trans (belowK_b (w := w) (Nat.le_refl _) _ D _ _ (by simp at hD; omega) hK' rfl rfl)
  case stop =>
    rintro D c pre W1 hD hpre ⟨⟨⟨rfl, hex⟩, hRw⟩, hBw⟩ hK
    have hv' := hXN pre hpre hex
    gi_wp2
    have hD' : w.heap.size + 1 ≠ D := by simp at hD; omega
    refine ⟨by simp, .inl ⟨_, _, rfl, run_takeDeferred hK, ?_⟩⟩
    have hc := (hRw.putObj (.deferred none) hD').cell 0
    simp only [List.getElem?_cons_zero] at hc
    refine ⟨.bool false, by simp [results, Tryd.f16, go_sem, hc], by rw [hv, hv'], ?_⟩
    exact hBw.trans (belowK_b (w := w) (Nat.le_refl _) _ D _ _ (by simp at hD; omega) hK rfl rfl)

theorem txRight (k : Int) (A : Option Addr) (m c : Nat) (l : List UInt8) (w : World) (hT : Tb w) (h : Bs w A m l) (hm : m ≤ 1099511) (hmc : m ≤ c) :
    Calls Tryd.prog 16 #[.agg #[.int .i64 k, .slice A m c]] w fun e w' => e = .returned (.bool (rightT k l)) ∧ Below w.heap.size w w' := by
  unfold rightT
  cases hk : isK k
  · exact txRightNo k A m c w hk
  · rw [Bool.true_and]; exact txRightYes k A m c l w hT h hm hmc hk
end Go.Proofs.YtoklonnajpjgjaaDoor

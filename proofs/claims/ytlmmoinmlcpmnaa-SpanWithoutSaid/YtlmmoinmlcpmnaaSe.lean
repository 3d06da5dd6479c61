/-
  The project's span: lists of spans; the fold of spans; Meet, Cover.
-/
import Derived.Test.YtlmmoinmlcpmnaaSd
import Derived.Shelf.Abstract
namespace Go.Proofs.Ytlmmoinmlcpmnaa
open Go.RowKit
set_option linter.unusedVariables false
set_option linter.unusedSimpArgs false
set_option maxRecDepth 4000

/-- The slice at A, of length n, reads as the spans l. -/
def Sps (w : World) (A : Option Addr) (n : Nat) (l : List Sp) : Prop :=
  l.length = n ∧ ∀ i x, l[i]? = some x → ∃ b o, A = some ⟨b, o, none⟩ ∧ w.cell? ⟨b, o + i * 2, none⟩ = some (.int .i64 x.1) ∧ w.cell? ⟨b, o + i * 2 + 1, none⟩ = some (.int .i64 x.2)
theorem Sps.below {w w' : World} {A : Option Addr} {n : Nat} {l : List Sp} (h : Sps w A n l) (hb : Below w.heap.size w w') : Sps w' A n l :=
  ⟨h.1, fun i t hi => let ⟨b, o, e, h0, h1⟩ := h.2 i t hi; ⟨b, o, e, (hb.cell (World.block_lt_of_cell? w _ h0)).trans h0, (hb.cell (World.block_lt_of_cell? w _ h1)).trans h1⟩⟩
theorem Sps.nil (w : World) (A : Option Addr) : Sps w A 0 [] := ⟨rfl, fun i x h => by simp at h⟩
theorem Sps.len {w : World} {A : Option Addr} {n : Nat} {l : List Sp} (h : Sps w A n l) : l.length = n := h.1
theorem Sps.at_ {w : World} {A : Option Addr} {n : Nat} {l : List Sp} (h : Sps w A n l) {k : Nat} (hk : k < n) :
    ∃ b o x y, A = some ⟨b, o, none⟩ ∧ l[k]? = some (x, y) ∧ w.cell? ⟨b, o + k * 2, none⟩ = some (.int .i64 x) ∧ w.cell? ⟨b, o + k * 2 + 1, none⟩ = some (.int .i64 y) := by
  have hl : k < l.length := by have := h.1; omega
  obtain ⟨b, o, e, h0, h1⟩ := h.2 k _ (List.getElem?_eq_getElem hl)
  exact ⟨b, o, _, _, e, List.getElem?_eq_getElem hl, h0, h1⟩
/-- Spans' cells. -/
def spC (x : Sp) : List Value := [.int .i64 x.1, .int .i64 x.2]
def spCs (l : List Sp) : List Value := l.flatMap spC
theorem spCs_snoc (ts : List Sp) (t : Sp) : spCs (ts ++ [t]) = spCs ts ++ spC t := by simp [spCs]
theorem spCs_append (ts us : List Sp) : spCs (ts ++ us) = spCs ts ++ spCs us := by simp [spCs]
theorem spCs_len (ts : List Sp) : (spCs ts).length = ts.length * 2 := by
  induction ts with
  | nil => rfl
  | cons t ts ih => simp [spCs, spC] at *; omega
theorem spCs_at : ∀ (ts : List Sp) (i : Nat) (t : Sp), ts[i]? = some t → (spCs ts)[i * 2]? = some (.int .i64 t.1) ∧ (spCs ts)[i * 2 + 1]? = some (.int .i64 t.2)
  | t :: ts, 0, u, h => by simp at h; subst h; simp [spCs, spC]
  | t :: ts, i + 1, u, h => by
    have := spCs_at ts i u (by simpa using h)
    have e : spCs (t :: ts) = spC t ++ spCs ts := by simp [spCs]
    rw [e]
    have l3 : (spC t).length = 2 := rfl
    refine ⟨?_, ?_⟩
    · rw [List.getElem?_append_right (by omega), l3, show (i + 1) * 2 - 2 = i * 2 by omega]; exact this.1
    · rw [List.getElem?_append_right (by omega), l3, show (i + 1) * 2 + 1 - 2 = i * 2 + 1 by omega]; exact this.2
theorem blk_sps {W : World} {R : Nat} {t : TypeId} {l : List Sp} (h : Blk W R t (spCs l)) : Sps W (some ⟨R, 0, none⟩) l.length l :=
  ⟨rfl, fun i x hx => ⟨R, 0, rfl, by rw [Nat.zero_add, h.cell]; exact (spCs_at l i x hx).1, by rw [Nat.zero_add, h.cell]; exact (spCs_at l i x hx).2⟩⟩

/-- A step of a fold over spans: a closure that captures nothing. -/
def StepS (P : Program) (g : Nat) (f : Sp → Sp → Sp) : Prop :=
  ∀ (x y : Sp) (W : World), Calls P g #[.agg #[.int .i64 x.1, .int .i64 x.2], .agg #[.int .i64 y.1, .int .i64 y.2]] W fun e w' => e = .returned (.agg #[.int .i64 (f x y).1, .int .i64 (f x y).2]) ∧ Below W.heap.size W w'

set_option maxHeartbeats 1600000 in
theorem spFoldS (g : Nat) (f : Sp → Sp → Sp) (eg : ∀ args w, (callFunc g args).run Try.prog w = .ok (.enter g args) w) (hf : StepS Try.prog g f) (a0 : Sp) (A : Option Addr) (n c : Nat) (l : List Sp) (w : World) (h : Sps w A n l) (hn : n ≤ 1099511627776) :
    Calls Try.prog 45 #[.agg #[.int .i64 a0.1, .int .i64 a0.2], .slice A n c, .func (.func g) #[] #[]] w fun e w' => e = .returned (.agg #[.int .i64 (l.foldl f a0).1, .int .i64 (l.foldl f a0).2]) ∧ Below w.heap.size w w' := by
  have HS := Lib.hid (fun x1 x2 y1 y2 => hf (x1, x2) (y1, y2))
  have HZ := Lib.hid h
  have HLN := Lib.hid h.len
  have HST : Hid (∀ k x y, l[k]? = some (x, y) → (l.take (k + 1)).foldl f a0 = f ((l.take k).foldl f a0) (x, y)) := fun k x y hx => fold_take f a0 l k _ hx
  have H0 : Hid ((l.take 0).foldl f a0 = a0) := rfl
  have HN : Hid ((l.take n).foldl f a0 = l.foldl f a0) := by unfold Hid; rw [← h.len]; simp
  clear h hf
  obtain ⟨F, hF⟩ : ∃ F : Nat → Sp, ∀ k, (l.take k).foldl f a0 = F k := ⟨fun k => (l.take k).foldl f a0, fun _ => rfl⟩
  simp only [hF] at HST H0 HN
  clear hF
  rw [← HN.out]
  clear HN
  obtain ⟨a, b⟩ := a0
  dsimp only at HS
  have hp0 := Blk.fst w (.int .i64 a) (.int .i64 b) 31
  have hp1 := Blk.snd w (.cells #[.int .i64 a, .int .i64 b] 31) (.int .i64 0) (.int .i64 0) 31
  have HP := Lib.hid (And.intro (hp0.alloc (.cells #[.int .i64 0, .int .i64 0] 31)) (And.intro hp1 (below_alloc2 w (.cells #[.int .i64 a, .int .i64 b] 31) (.cells #[.int .i64 0, .int .i64 0] 31))))
  clear hp0 hp1
  dsimp only
  go_enter Try.func45, Try.ntmps45
  go_wp2
  go_loopw [11] (fun i wr => ∃ k : Nat, k ≤ n ∧ i = .int .i64 (k : Int) ∧ Blk wr w.heap.size 31 [.int .i64 (F k).1, .int .i64 (F k).2] ∧ Blk wr (w.heap.size + 1) 31 [.int .i64 0, .int .i64 0] ∧ Below w.heap.size w wr) (fun i _ => n - (intOf i).toNat)
  case atStart =>
    refine ⟨0, Nat.zero_le _, rfl, ?_⟩
    rw [H0.out]
    exact HP.out
  case round =>
    obtain ⟨k, hk, rfl, h1, h2, h3⟩ := hrel
    have K1 := Lib.hid h1
    have K2 := Lib.hid h2
    have K3 := Lib.hid h3
    clear h1 h2 h3 HP H0
    by_cases hlt : k < n
    · obtain ⟨bb, oo, x, y, rfl, hx, c0, c1⟩ := (Sps.below HZ.out K3.out).at_ hlt
      have HX := Lib.hid (HST.out k x y hx)
      have e1 : (k : Int) < (n : Int) := by omega
      clear hx
      obtain ⟨z', hz'⟩ : ∃ z', F (k + 1) = z' := ⟨_, rfl⟩
      have HZ' := Lib.hid hz'
      rw [hz'] at HX
      clear hz'
      generalize F k = z at *
      obtain ⟨z1, z2⟩ := z
      dsimp only at K1
      have K1a := Lib.hid (K1.out.alloc (.cells #[.int .i64 x, .int .i64 y] 31))
      have K2a := Lib.hid (K2.out.alloc (.cells #[.int .i64 x, .int .i64 y] 31))
      have K3a := Lib.hid (K3.out.alloc K3.out.size (.cells #[.int .i64 x, .int .i64 y] 31))
      obtain ⟨⟨p0, p1⟩, p2, p3⟩ := K1a.out.two
      clear K1 K2 K3
      go_wp2_with fail
      refine (HS.out z1 z2 x y _).mono ?_
      rintro e w' ⟨rfl, hb⟩
      have K1b := Lib.hid (K1a.out.below hb)
      have K2b := Lib.hid (K2a.out.below hb)
      have K3b := Lib.hid (bstep K3a.out hb K3a.out.size)
      clear hb p0 p1 p2 p3 c0 c1 K1a K2a K3a
      rw [← HX.out]
      obtain ⟨⟨p0, p1⟩, p2, p3⟩ := K1b.out.two
      have K4 := Lib.hid (K1b.out.put (.int .i64 z'.1) (.int .i64 z'.2))
      have K5 := Lib.hid ((K2b.out.setOther (r := w.heap.size) (by omega) 0 (.int .i64 z'.1)).setOther (r := w.heap.size) (by omega) 1 (.int .i64 z'.2))
      have K6 : Hid (Below w.heap.size w ((w'.setCell ⟨w.heap.size, 0, none⟩ (.int .i64 z'.1)).setCell ⟨w.heap.size, 1, none⟩ (.int .i64 z'.2))) := below_set (below_set K3b.out K3b.out.size (Nat.le_refl _) _ _) (by have := K3b.out.size; simp [World.setCell]; omega) (Nat.le_refl _) _ _
      clear K1b K2b K3b
      go_wp2
      go_roundw
      case rel => exact ⟨k + 1, by omega, by go_num, by rw [HZ'.out]; exact K4.out, K5.out, K6.out⟩
      case measure => simp [intOf]; omega
    · have e1 : ¬ (k : Int) < (n : Int) := by omega
      have hkn : k = n := by omega
      subst hkn
      obtain ⟨⟨p0, p1⟩, _, _⟩ := K1.out.two
      obtain ⟨⟨q0, q1⟩, q2, q3⟩ := K2.out.two
      obtain ⟨z, hz⟩ : ∃ z, F k = z := ⟨_, rfl⟩
      have HZ' := Lib.hid hz
      rw [hz] at p0 p1 K1
      clear hz
      obtain ⟨z1, z2⟩ := z
      dsimp only at p0 p1 K1
      go_wp2
      refine ret2 Try.results45 (loadS _ _ _) rfl rfl (K2.out.put _ _) ?_
      refine ⟨by rw [HZ'.out], below_set (below_set K3.out ?_ (Nat.le_succ _) _ _) ?_ (Nat.le_succ _) _ _⟩
      all_goals have := K3.out.size; simp [World.setCell]; try omega

set_option maxHeartbeats 800000 in
theorem spMeetC : StepS Try.prog 46 meetS := by
  rintro ⟨a, b⟩ ⟨c, d⟩ w
  dsimp only
  have fin : Hid (∀ x y : Int, meetS (a, b) (c, d) = (x, y) → Ending.returned (.agg #[.int .i64 x, .int .i64 y]) = .returned (.agg #[.int .i64 (meetS (a, b) (c, d)).1, .int .i64 (meetS (a, b) (c, d)).2])) := by
    rintro x y h; rw [h]
  go_enter Try.func46, Try.ntmps46
  go_wp2
  all_goals
    refine ret2 Try.results46 (loadS _ _ _) rfl rfl (Blk.trd _ _ _ _ _ _) ?_
    refine ⟨fin.out _ _ ?_, (below_alloc2 w _ _).alloc (by simp; omega) _⟩
    unfold meetS
    dsimp only
    rw [Prod.mk.injEq]
    constructor <;> split <;> omega

/-- A block of its own, and what came then. -/
structure Late (w W : World) (R : Nat) (t : TypeId) (x y : Value) : Prop where
  blk : Blk W R t [x, y]
  bel : Below w.heap.size w W
  ge : w.heap.size ≤ R
theorem Late.call {w W W' : World} {R : Nat} {t : TypeId} {x y : Value} (h : Late w W R t x y) (hb : Below W.heap.size W W') : Late w W' R t x y :=
  ⟨h.blk.below hb, bstep h.bel hb h.bel.size, h.ge⟩
theorem Late.alloc {w W : World} {R : Nat} {t : TypeId} {x y : Value} (h : Late w W R t x y) (o : Obj) : Late w (W.alloc o) R t x y := h.call (below_alloc1 _ _)
theorem Late.put {w W : World} {R : Nat} {t : TypeId} {x y : Value} (h : Late w W R t x y) (a b : Value) : Late w ((W.setCell ⟨R, 0, none⟩ a).setCell ⟨R, 1, none⟩ b) R t a b :=
  ⟨h.blk.put a b, below_set (below_set h.bel h.bel.size h.ge _ _) (by have := h.bel.size; simp [World.setCell]; omega) h.ge _ _, h.ge⟩
theorem Late.fst (w : World) (x y : Value) (t : TypeId) : Late w (w.alloc (.cells #[x, y] t)) w.heap.size t x y := ⟨Blk.fst _ _ _ _, below_alloc1 _ _, Nat.le_refl _⟩
theorem Late.snd (w : World) (o : Obj) (x y : Value) (t : TypeId) : Late w ((w.alloc o).alloc (.cells #[x, y] t)) (w.heap.size + 1) t x y := ⟨Blk.snd _ _ _ _ _, below_alloc2 _ _ _, Nat.le_succ _⟩
theorem Late.trd (w : World) (o o' : Obj) (x y : Value) (t : TypeId) : Late w (((w.alloc o).alloc o').alloc (.cells #[x, y] t)) (w.heap.size + 1 + 1) t x y := ⟨Blk.trd _ _ _ _ _ _, (below_alloc2 w _ _).alloc (by simp; omega) _, by omega⟩
/-- What came first keeps its block when what came later is written. -/
theorem Late.keep {w W : World} {R : Nat} {t : TypeId} {x y : Value} {S : Nat} {u : TypeId} {p q : Value} (h : Late w W R t x y) (k : Late w W S u p q) (hne : R ≠ S) (a b : Value) : Late w ((W.setCell ⟨S, 0, none⟩ a).setCell ⟨S, 1, none⟩ b) R t x y :=
  ⟨(h.blk.setOther hne 0 a).setOther hne 1 b, (k.put a b).bel, h.ge⟩

set_option maxHeartbeats 1600000 in
theorem spCoverC : StepS Try.prog 47 covS := by
  rintro ⟨a, b⟩ ⟨c, d⟩ w
  dsimp only
  have fin : Hid (∀ x y : Int, covS (a, b) (c, d) = (x, y) → Ending.returned (.agg #[.int .i64 x, .int .i64 y]) = .returned (.agg #[.int .i64 (covS (a, b) (c, d)).1, .int .i64 (covS (a, b) (c, d)).2])) := by
    rintro x y h; rw [h]
  have HE := Lib.hid (fun x y W => spEmpty x y W)
  have K1 := Lib.hid (((Late.fst w (.int .i64 a) (.int .i64 b) 31).alloc (.cells #[.int .i64 c, .int .i64 d] 31)).alloc (.cells #[.int .i64 0, .int .i64 0] 31))
  have K2 := Lib.hid ((Late.snd w (.cells #[.int .i64 a, .int .i64 b] 31) (.int .i64 c) (.int .i64 d) 31).alloc (.cells #[.int .i64 0, .int .i64 0] 31))
  have K3 := Lib.hid (Late.trd w (.cells #[.int .i64 a, .int .i64 b] 31) (.cells #[.int .i64 c, .int .i64 d] 31) (.int .i64 0) (.int .i64 0) 31)
  go_enter Try.func47, Try.ntmps47
  go_wp2_with fail
  refine (HE.out c d _).mono ?_
  rintro e w1 ⟨rfl, hb⟩
  have L1 := Lib.hid (K1.out.call hb)
  have L2 := Lib.hid (K2.out.call hb)
  have L3 := Lib.hid (K3.out.call hb)
  obtain ⟨⟨p0, p1⟩, _, _⟩ := L1.out.blk.two
  obtain ⟨⟨q0, q1⟩, _, _⟩ := L2.out.blk.two
  obtain ⟨⟨r0, r1⟩, r2, r3⟩ := L3.out.blk.two
  clear hb K1 K2 K3
  by_cases g : d < c
  · have hF : Hid (covS (a, b) (c, d) = (a, b)) := by unfold Hid covS; rw [if_pos g]
    go_wp2
    refine ret2 Try.results47 (loadS _ _ _) rfl rfl (L3.out.put _ _).blk ?_
    exact ⟨fin.out _ _ hF.out, (L3.out.put _ _).bel⟩
  · have g' : decide (d < c) = false := by simpa using g
    have HG := Lib.hid g
    go_wp2_with fail
    refine (HE.out a b _).mono ?_
    rintro e w2 ⟨rfl, hb⟩
    clear p0 p1 q0 q1 r0 r1 r2 r3
    have M1 := Lib.hid (L1.out.call hb)
    have M2 := Lib.hid (L2.out.call hb)
    have M3 := Lib.hid (L3.out.call hb)
    obtain ⟨⟨p0, p1⟩, _, _⟩ := M1.out.blk.two
    obtain ⟨⟨q0, q1⟩, _, _⟩ := M2.out.blk.two
    obtain ⟨⟨r0, r1⟩, r2, r3⟩ := M3.out.blk.two
    clear hb L1 L2 L3
    by_cases g2 : b < a
    · have hF : Hid (covS (a, b) (c, d) = (c, d)) := by unfold Hid covS; have := HG.out; rw [if_neg (by dsimp only; omega), if_pos g2]
      go_wp2
      refine ret2 Try.results47 (loadS _ _ _) rfl rfl (M3.out.put _ _).blk ?_
      exact ⟨fin.out _ _ hF.out, (M3.out.put _ _).bel⟩
    · have hF : Hid (covS (a, b) (c, d) = (if c < a then c else a, if b < d then d else b)) := by unfold Hid covS; have := HG.out; rw [if_neg (by dsimp only; omega), if_neg g2]
      have g2' : decide (b < a) = false := by simpa using g2
      go_wp2
      all_goals
        refine ret2 Try.results47 (loadS _ _ _) rfl rfl (M3.out.put _ _).blk ?_
        refine ⟨fin.out _ _ ?_, (M3.out.put _ _).bel⟩
        rw [hF.out, Prod.mk.injEq]
        constructor <;> split <;> omega
theorem enters46 : ∀ args w, (callFunc 46 args).run Try.prog w = .ok (.enter 46 args) w := enters_of Try.func46 (by kernel_rfl) rfl
theorem enters47 : ∀ args w, (callFunc 47 args).run Try.prog w = .ok (.enter 47 args) w := enters_of Try.func47 (by kernel_rfl) rfl

set_option maxHeartbeats 800000 in
theorem spMeet (A : Option Addr) (n c : Nat) (l : List Sp) (w : World) (h : Sps w A n l) (hn : n ≤ 1099511627776) :
    Calls Try.prog 28 #[.slice A n c] w fun e w' => e = .returned (.agg #[.int .i64 (meetL l).1, .int .i64 (meetL l).2]) ∧ Below w.heap.size w w' := by
  have K0 := Lib.hid (Late.fst w (.int .i64 0) (.int .i64 0) 31)
  have HM := Lib.hid (spFoldS 46 meetS enters46 spMeetC (-9223372036854775808, 9223372036854775807) A n c l _ (h.below (K0.out.bel)) hn)
  have HC := Lib.hid (fun x y W => spCanonical x y W)
  have hE : meetL l = canon (l.foldl meetS (-9223372036854775808, 9223372036854775807)) := rfl
  rw [hE]
  clear hE h
  generalize l.foldl meetS (-9223372036854775808, 9223372036854775807) = m at *
  obtain ⟨m1, m2⟩ := m
  dsimp only at HM
  go_enter Try.func28, Try.ntmps28
  go_wp2_with fail
  refine HM.out.mono ?_
  rintro e w1 ⟨rfl, hb⟩
  have K1 := Lib.hid (K0.out.call hb)
  clear hb K0
  go_wp2_with fail
  refine (HC.out _ _ _).mono ?_
  rintro e w2 ⟨rfl, hb⟩
  have K2 := Lib.hid (K1.out.call hb)
  clear hb K1
  obtain ⟨⟨r0, r1⟩, r2, r3⟩ := K2.out.blk.two
  go_wp2
  refine ret2 Try.results28 (loadS _ _ _) rfl rfl (K2.out.put _ _).blk ?_
  exact ⟨rfl, (K2.out.put _ _).bel⟩

set_option maxHeartbeats 800000 in
theorem spCover (A : Option Addr) (n c : Nat) (l : List Sp) (w : World) (h : Sps w A n l) (hn : n ≤ 1099511627776) :
    Calls Try.prog 29 #[.slice A n c] w fun e w' => e = .returned (.agg #[.int .i64 (covL l).1, .int .i64 (covL l).2]) ∧ Below w.heap.size w w' := by
  have K0 := Lib.hid (Late.fst w (.int .i64 0) (.int .i64 0) 31)
  have HM := Lib.hid (fun W hW => spFoldS 47 covS enters47 spCoverC (1, 0) A n c l W (h.below hW) hn)
  have HC := Lib.hid (fun W => spNone W)
  have hE : covL l = l.foldl covS (1, 0) := rfl
  rw [hE]
  clear hE h
  generalize l.foldl covS (1, 0) = m at *
  obtain ⟨m1, m2⟩ := m
  dsimp only at HM
  go_enter Try.func29, Try.ntmps29
  go_wp2_with fail
  refine (HC.out _).mono ?_
  rintro e w1 ⟨rfl, hb⟩
  have K1 := Lib.hid (K0.out.call hb)
  clear hb K0
  go_wp2_with fail
  refine (HM.out _ K1.out.bel).mono ?_
  rintro e w2 ⟨rfl, hb⟩
  have K2 := Lib.hid (K1.out.call hb)
  clear hb K1
  obtain ⟨⟨r0, r1⟩, r2, r3⟩ := K2.out.blk.two
  go_wp2
  refine ret2 Try.results29 (loadS _ _ _) rfl rfl (K2.out.put _ _).blk ?_
  exact ⟨rfl, (K2.out.put _ _).bel⟩
end Go.Proofs.Ytlmmoinmlcpmnaa

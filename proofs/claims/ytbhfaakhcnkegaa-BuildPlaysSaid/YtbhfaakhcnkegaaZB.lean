/-
  The reference's sheet: Shut; any call of it, beside the project's.
-/
import Derived.Test.YtbhfaakhcnkegaaZA
namespace Go.Proofs.Ytbhfaakhcnkegaa
open Go.RowKit Go.Joins
set_option linter.unusedVariables false
set_option linter.unusedSimpArgs false
set_option maxRecDepth 4000

/-! ### Ze -/
theorem Rst.lastCells {w : World} {T g n c : Nat} {rp : List Nat} {Gs : List Fr} {F : Fr} {e : Int} {vs : List Value} (h : Rst w T rp (Gs ++ [F]) e (.slice (some ⟨g, 0, none⟩) n c) vs) :
    ∃ A m d, (w.cell? ⟨g, Gs.length * 5, none⟩ = some (.int .i64 F.t.cls) ∧ w.cell? ⟨g, Gs.length * 5 + 1, none⟩ = some (.int .i64 F.t.num) ∧ w.cell? ⟨g, Gs.length * 5 + 2, none⟩ = some (.bool F.t.made) ∧ w.cell? ⟨g, Gs.length * 5 + 3, none⟩ = some (.bool F.set) ∧ w.cell? ⟨g, Gs.length * 5 + 4, none⟩ = some (.slice A m d)) ∧ Bs w A m F.b ∧ m ≤ d := by
  have hF : (Gs ++ [F])[Gs.length]? = some F := by simp
  obtain ⟨u, hu, ho⟩ := h.held.2 Gs.length F hF
  obtain ⟨A, d, rfl, hd, hbs⟩ := ho.slice
  obtain ⟨h1, h2, h3, h4, h5⟩ := frCs_at hF hu h.held.1
  have hcells := @World.ownsRow.cells _ _ _ _ _ _ _ h.row
  have hc := fun i q hq => hcells (g := g) rfl (5 * Gs.length + i) q hq
  have c0 := hc 0 _ h1
  have c1 := hc 1 _ h2
  have c2 := hc 2 _ h3
  have c3 := hc 3 _ h4
  have c4 := hc 4 _ h5
  rw [Addr.add_none, Nat.zero_add, Nat.mul_comm] at c0 c1 c2 c3 c4
  exact ⟨A, _, d, ⟨c0, c1, c2, c3, c4⟩, hbs, hd⟩

/-- Behind a frame's being shut: the frame around it has its bytes. -/
theorem RsOk.shut {w W5 w9 : World} {T g n c : Nat} {rp : List Nat} {Gs : List Fr} {F : Fr} {vs : List Value} {v9 : Value} {l : List UInt8} (hT : Rst W5 T rp (Gs ++ [F]) 0 (.slice (some ⟨g, 0, none⟩) n c) vs) (hO : OnlyF rp w W5) (hW : Below W5.heap.size W5 w9) (ho : Ob w9 W5.heap.size 5 v9 l) :
    RsOk w T rp (Gs ++ [⟨F.t, F.set, l⟩]) 0 (w9.setCell ⟨g, Gs.length * 5 + 4, none⟩ v9) := by
  obtain ⟨p1, p2⟩ := (hT.below hW).setLast (ho.mono (Nat.zero_le _))
  refine ⟨_, ⟨_, _, p1⟩, ?_, ?_⟩
  · have h1 : OnlyF rp w w9 := hO.trans (.of_below hW) (Grew.refl _ _)
    exact h1.trans p2 (Grew.refl _ _)
  · intro k hk
    rcases List.mem_append.1 hk with h1 | h1
    · exact .inl h1
    · exact .inr (Nat.le_trans hO.size (ho.lt k (by simpa using h1)).1)

set_option maxHeartbeats 1600000 in
/-- The sheet's own frame can't be shut. -/
theorem ref8DoShut0 (T : Nat) (rp : List Nat) (F : Fr) (rv : Value) (t : Tg) (x : Int) (w : World) (h : Rs w T rp [F] 0) :
    Calls Try.prog 17 #[.pointer (some ⟨T, 0, none⟩), actv 3 rv t x] w fun e w' => e = .returned (.tuple #[]) ∧ RsOk w T rp [F] 17 w' := by
  have hb := below_alloc1 w (.cells #[.int .i64 3, rv, .int .i64 t.cls, .int .i64 t.num, .bool t.made, .int .i64 x] 31)
  have hA := Blk.new w [.int .i64 3, rv, .int .i64 t.cls, .int .i64 t.num, .bool t.made, .int .i64 x] 31
  have a0 : (w.alloc (.cells #[.int .i64 3, rv, .int .i64 t.cls, .int .i64 t.num, .bool t.made, .int .i64 x] 31)).cell? ⟨w.heap.size, 0, none⟩ = some (.int .i64 3) := hA.cell 0
  obtain ⟨va, vs, hT⟩ := h
  have hT2 := hT.below hb
  obtain ⟨⟨c0, c1⟩, hfr⟩ := hT2.cells
  have f1 := hfr 1
  obtain ⟨g, c, rfl, hc, _⟩ := hT2.vaForm (by simp)
  have hset := hT2.setE 17
  have FIN : Hid (∀ W, W = (w.alloc (.cells #[.int .i64 3, rv, .int .i64 t.cls, .int .i64 t.num, .bool t.made, .int .i64 x] 31)).setCell ⟨T, 1, none⟩ (.int .i64 17) → RsOk w T rp [F] 17 W) := by
    rintro W rfl
    exact ⟨rp, ⟨_, _, hset.1⟩, (OnlyF.of_below (fp := rp) hb).trans hset.2 (Grew.refl _ _), Grew.refl _ _⟩
  unfold actv
  simp only [List.length_singleton] at *
  clear hT hT2 hA hset hfr hb
  go_enter Try.func17, Try.ntmps17
  go_upto_region 1 with (fail)
  generalize w.alloc (.cells #[.int .i64 3, rv, .int .i64 t.cls, .int .i64 t.num, .bool t.made, .int .i64 x] 31) = W0 at *
  go_wp2
  refine bodyPost_ret (results_none rfl _ _ _) rfl ?_
  exact ⟨rfl, FIN.out _ rfl⟩

theorem wrapB_le9 (t : Tg) (l : List UInt8) : (wrapB t l).length ≤ l.length + 9 := by
  unfold wrapB
  have h1 := tagB_len t
  have h2 := lenB_len l.length
  simp; omega
/-- Behind an error's being set. -/
theorem RsOk.err {w W W2 : World} {T : Nat} {rp : List Nat} {fs : List Fr} {va : Value} {vs : List Value} (x : Int) (hT : Rst W T rp fs 0 va vs) (hb : Below w.heap.size w W) (hW : Below W.heap.size W W2) : RsOk w T rp fs x (W2.setCell ⟨T, 1, none⟩ (.int .i64 x)) := by
  have hset := (hT.below hW).setE x
  have h1 : OnlyF rp w W2 := .of_below (hb.trans (hW.mono hb.size))
  exact ⟨rp, ⟨_, _, hset.1⟩, h1.trans hset.2 (Grew.refl _ _), Grew.refl _ _⟩

set_option maxHeartbeats 6400000 in
theorem ref8DoShutX (T : Nat) (rp : List Nat) (Gs : List Fr) (F : Fr) (rv : Value) (t : Tg) (x : Int) (w : World) (h : Rs w T rp (Gs ++ [F]) 0) (h1 : Gs ≠ []) (hl : Gs.length ≤ 1000) (hF : F.b.length ≤ 10000000) (hs : F.set = false) (hr : F.t.rightB = false) :
    Calls Try.prog 17 #[.pointer (some ⟨T, 0, none⟩), actv 3 rv t x] w fun e w' => e = .returned (.tuple #[]) ∧ RsOk w T rp (Gs ++ [F]) 1 w' := by
  obtain ⟨i0, hi, hz0, hz1, hz2⟩ := info_parts u8_info
  have hb := below_alloc1 w (.cells #[.int .i64 3, rv, .int .i64 t.cls, .int .i64 t.num, .bool t.made, .int .i64 x] 31)
  have hA : Blk (w.alloc (.cells #[.int .i64 3, rv, .int .i64 t.cls, .int .i64 t.num, .bool t.made, .int .i64 x] 31)) w.heap.size 31 [.int .i64 3, rv, .int .i64 t.cls, .int .i64 t.num, .bool t.made, .int .i64 x] := Blk.new w _ _
  obtain ⟨va, vs, hT0⟩ := h
  have hT := hT0.below hb
  have hrpl := hT0.lt
  obtain ⟨g, cg, rfl, hc, hgr⟩ := hT.vaForm (by simp)
  have hgl : g < w.heap.size := hrpl g hgr
  have hTl : T < w.heap.size := hrpl T hT0.inT
  unfold actv
  rw [List.length_append, List.length_singleton] at hT hc
  have hsz : w.heap.size < (w.alloc (.cells #[.int .i64 3, rv, .int .i64 t.cls, .int .i64 t.num, .bool t.made, .int .i64 x] 31)).heap.size := hA.lt
  obtain ⟨⟨c0, c1⟩, hfr⟩ := hT.cells
  obtain ⟨Ab, nb, cb, ⟨p0, p1, p2, p3, p4⟩, hbb, hnb⟩ := hT.lastCells
  have k0 : (w.alloc (.cells #[.int .i64 3, rv, .int .i64 t.cls, .int .i64 t.num, .bool t.made, .int .i64 x] 31)).cell? ⟨w.heap.size, 0, none⟩ = some (.int .i64 3) := hA.cell 0
  have hN1 : Gs.length ≠ 0 := fun h => h1 (List.eq_nil_of_length_eq_zero h)
  have e0 : ((Gs.length : Int) == 0) = false := by simp; exact h1
  have HT := Lib.hid hT
  have HB := Lib.hid hb
  have HSZ := Lib.hid hsz
  have HGL := Lib.hid hgl
  have HTL := Lib.hid hTl
  have HHL := Lib.hid hl
  have HBB := Lib.hid hbb
  have hFl := Lib.hid hF
  have hnb2 : nb ≤ 10000000 := by have := hbb.len; omega
  clear hT hT0 hA hb hsz hgl hTl hrpl hgr hbb hF
  generalize hN : Gs.length = N at *
  generalize hFBl : F.b = FB at *
  have HN := Lib.hid hN
  clear hN
  go_enter Try.func17, Try.ntmps17
  go_upto_region 1 with (fail)
  generalize w.alloc (.cells #[.int .i64 3, rv, .int .i64 t.cls, .int .i64 t.num, .bool t.made, .int .i64 x] 31) = W0 at *
  go_upto_region 13 with (fail)
  go_upto_region 14 with (fail)
  have hFR : Blk (W0.alloc (.cells #[.int .i64 F.t.cls, .int .i64 F.t.num, .bool F.t.made, .bool false, .slice Ab nb cb] 88)) W0.heap.size 88 [.int .i64 F.t.cls, .int .i64 F.t.num, .bool F.t.made, .bool false, .slice Ab nb cb] := Blk.new W0 _ _
  have hB1 := below_alloc1 W0 (.cells #[.int .i64 F.t.cls, .int .i64 F.t.num, .bool F.t.made, .bool false, .slice Ab nb cb] 88)
  have y0 := hFR.cell 0
  have y1 := hFR.cell 1
  have y2 := hFR.cell 2
  have y3 := hFR.cell 3
  have y4 := hFR.cell 4
  simp only [List.getElem?_cons_zero, List.getElem?_cons_succ] at y0 y1 y2 y3 y4
  have HFR := Lib.hid hFR
  have HB1 := Lib.hid hB1
  clear hFR hB1 p0 p1 p2 p3 p4
  generalize W0.alloc (.cells #[.int .i64 F.t.cls, .int .i64 F.t.num, .bool F.t.made, .bool false, .slice Ab nb cb] 88) = W1 at *
  have hWr : Hid (∀ W, Below W0.heap.size W0 W → Calls Try.prog 50 #[.agg #[.int .i64 F.t.cls, .int .i64 F.t.num, .bool F.t.made], .slice Ab nb cb] W fun e w' => ∃ A n c, e = .returned (.tuple #[.slice A n c, .int .i64 1]) ∧ Below W.heap.size W w') := fun W hW =>
    (ref8wrap F.t Ab nb cb FB W (HBB.out.below hW) (by omega)).mono fun e w' h => by
      obtain ⟨A, n, c, he, ho, hb⟩ := h
      rw [hr] at he
      exact ⟨A, n, c, he, hb⟩
  have FN : Hid (∀ W2, Below W0.heap.size W0 W2 → RsOk w T rp (Gs ++ [F]) 1 (W2.setCell ⟨T, 1, none⟩ (.int .i64 1))) := Lib.hid fun W2 hW => RsOk.err 1 HT.out HB.out hW
  go_upto_region 19 with (fail)
  go_wp2_with fail
  refine (hWr.out _ HB1.out).mono ?_
  rintro e w2 ⟨A2, n2, c2, rfl, hb2⟩
  have HB2 := Lib.hid (HB1.out.trans (hb2.mono HB1.out.size))
  have f1 := (HT.out.below HB2.out).cells.2 1
  have s1 := (HT.out.below HB2.out).cells.1.2
  clear hb2 hfr c0 c1 k0 y0 y1 y2 y3 y4 hWr
  go_wp2
  refine bodyPost_ret (results_none rfl _ _ _) rfl ?_
  exact ⟨rfl, FN.out _ HB2.out⟩

set_option maxHeartbeats 6400000 in
theorem ref8DoShutY (T : Nat) (rp : List Nat) (Gs : List Fr) (F : Fr) (rv : Value) (t : Tg) (x : Int) (w : World) (h : Rs w T rp (Gs ++ [F]) 0) (h1 : Gs ≠ []) (hl : Gs.length ≤ 1000) (hF : F.b.length ≤ 10000000) (Hs : List Fr) (G : Fr) (hG : Gs = Hs ++ [G]) (hGb : G.b.length ≤ 10000000) (hs : F.set = false) (hr : F.t.rightB = true) :
    Calls Try.prog 17 #[.pointer (some ⟨T, 0, none⟩), actv 3 rv t x] w fun e w' => e = .returned (.tuple #[]) ∧ RsOk w T rp (Hs ++ [⟨G.t, G.set, G.b ++ wrapB F.t F.b⟩]) 0 w' := by
  obtain ⟨i0, hi, hz0, hz1, hz2⟩ := info_parts u8_info
  have hb := below_alloc1 w (.cells #[.int .i64 3, rv, .int .i64 t.cls, .int .i64 t.num, .bool t.made, .int .i64 x] 31)
  have hA : Blk (w.alloc (.cells #[.int .i64 3, rv, .int .i64 t.cls, .int .i64 t.num, .bool t.made, .int .i64 x] 31)) w.heap.size 31 [.int .i64 3, rv, .int .i64 t.cls, .int .i64 t.num, .bool t.made, .int .i64 x] := Blk.new w _ _
  obtain ⟨va, vs, hT0⟩ := h
  have hT := hT0.below hb
  have hrpl := hT0.lt
  obtain ⟨g, cg, rfl, hc, hgr⟩ := hT.vaForm (by simp)
  have hgl : g < w.heap.size := hrpl g hgr
  have hTl : T < w.heap.size := hrpl T hT0.inT
  unfold actv
  rw [List.length_append, List.length_singleton] at hT hc
  have hsz : w.heap.size < (w.alloc (.cells #[.int .i64 3, rv, .int .i64 t.cls, .int .i64 t.num, .bool t.made, .int .i64 x] 31)).heap.size := hA.lt
  obtain ⟨⟨c0, c1⟩, hfr⟩ := hT.cells
  obtain ⟨Ab, nb, cb, ⟨p0, p1, p2, p3, p4⟩, hbb, hnb⟩ := hT.lastCells
  have k0 : (w.alloc (.cells #[.int .i64 3, rv, .int .i64 t.cls, .int .i64 t.num, .bool t.made, .int .i64 x] 31)).cell? ⟨w.heap.size, 0, none⟩ = some (.int .i64 3) := hA.cell 0
  have hN1 : Gs.length ≠ 0 := fun h => h1 (List.eq_nil_of_length_eq_zero h)
  have e0 : ((Gs.length : Int) == 0) = false := by simp; exact h1
  have HT := Lib.hid hT
  have HB := Lib.hid hb
  have HSZ := Lib.hid hsz
  have HGL := Lib.hid hgl
  have HTL := Lib.hid hTl
  have HHL := Lib.hid hl
  have HBB := Lib.hid hbb
  have hFl := Lib.hid hF
  have hnb2 : nb ≤ 10000000 := by have := hbb.len; omega
  clear hT hT0 hA hb hsz hgl hTl hrpl hgr hbb hF
  have hGl := Lib.hid hGb
  clear hGb
  generalize hN : Gs.length = N at *
  generalize hFBl : F.b = FB at *
  have HN := Lib.hid hN
  clear hN
  have hRl : (wrapB F.t FB).length ≤ 10000009 := Nat.le_trans (wrapB_le9 _ _) (by have := hFl.out; omega)
  generalize hRBl : wrapB F.t FB = RB at *
  generalize hGBl : G.b = GB at *
  go_enter Try.func17, Try.ntmps17
  go_upto_region 1 with (fail)
  generalize w.alloc (.cells #[.int .i64 3, rv, .int .i64 t.cls, .int .i64 t.num, .bool t.made, .int .i64 x] 31) = W0 at *
  go_upto_region 13 with (fail)
  go_upto_region 14 with (fail)
  have hFR : Blk (W0.alloc (.cells #[.int .i64 F.t.cls, .int .i64 F.t.num, .bool F.t.made, .bool false, .slice Ab nb cb] 88)) W0.heap.size 88 [.int .i64 F.t.cls, .int .i64 F.t.num, .bool F.t.made, .bool false, .slice Ab nb cb] := Blk.new W0 _ _
  have hB1 := below_alloc1 W0 (.cells #[.int .i64 F.t.cls, .int .i64 F.t.num, .bool F.t.made, .bool false, .slice Ab nb cb] 88)
  have y0 := hFR.cell 0
  have y1 := hFR.cell 1
  have y2 := hFR.cell 2
  have y3 := hFR.cell 3
  have y4 := hFR.cell 4
  simp only [List.getElem?_cons_zero, List.getElem?_cons_succ] at y0 y1 y2 y3 y4
  have HFR := Lib.hid hFR
  have HB1 := Lib.hid hB1
  clear hFR hB1 p0 p1 p2 p3 p4
  generalize W0.alloc (.cells #[.int .i64 F.t.cls, .int .i64 F.t.num, .bool F.t.made, .bool false, .slice Ab nb cb] 88) = W1 at *
  have hWr : Hid (∀ W, Below W0.heap.size W0 W → Calls Try.prog 50 #[.agg #[.int .i64 F.t.cls, .int .i64 F.t.num, .bool F.t.made], .slice Ab nb cb] W fun e w' => ∃ A n c, e = .returned (.tuple #[.slice A n c, .int .i64 0]) ∧ Ob w' W.heap.size 5 (.slice A n c) RB ∧ Below W.heap.size W w') := fun W hW =>
    (ref8wrap F.t Ab nb cb FB W (HBB.out.below hW) (by omega)).mono fun e w' h => by
      obtain ⟨A, n, c, he, ho, hb⟩ := h
      rw [hr] at he ho
      rw [← hRBl]
      exact ⟨A, n, c, he, ho, hb⟩
  go_upto_region 19 with (fail)
  go_wp2_with fail
  refine (hWr.out _ HB1.out).mono ?_
  rintro e w2 ⟨A2, n2, c2, rfl, ho2, hb2⟩
  have HB2 := Lib.hid (HB1.out.trans (hb2.mono HB1.out.size))
  clear hb2
  have hn2 : n2 ≤ 10000009 := by have := ho2.bs.1.len; omega
  have f0 := (HT.out.below HB2.out).cells.2 0
  have s0 := (HT.out.below HB2.out).cells.1.1
  obtain ⟨P1, P2⟩ := (HT.out.below HB2.out).pop (k := N) (by have := HN.out; simp; omega)
  have hO5 : OnlyF rp w (w2.setCell ⟨T, 0, none⟩ (.slice (some ⟨g, 0, none⟩) N cg)) := (OnlyF.of_below (fp := rp) (HB.out.trans (HB2.out.mono HB.out.size))).trans P2 (Grew.refl _ _)
  have htk : (Gs ++ [F]).take N = Hs ++ [G] := by rw [← HN.out, List.take_left']; exact hG; rfl
  rw [htk] at P1
  have ho5 : Ob (w2.setCell ⟨T, 0, none⟩ (.slice (some ⟨g, 0, none⟩) N cg)) _ 5 (.slice A2 n2 c2) RB := ownsRow_setCell_other ho2 ((HT.out.below HB2.out).blk.notRow ho2 (by decide)) _
  obtain ⟨hbs5, _⟩ := Ob.bs ho5
  have P1h := Lib.hid P1
  have O5h := Lib.hid hO5
  have B5h := Lib.hid hbs5
  clear P1 P2 hO5 ho5 hbs5 ho2 hfr c0 c1 k0 y0 y1 y2 y3 y4 hWr htk
  go_upto_region 23 with (fail)
  generalize w2.setCell ⟨T, 0, none⟩ (.slice (some ⟨g, 0, none⟩) N cg) = W5 at *
  obtain ⟨Ag, ng, cgg, q0, hgb, hng, qf⟩ := P1h.out.lastAt
  rw [hGBl] at hgb
  have hng2 : ng ≤ 10000000 := by have := hgb.len; have := hGl.out; omega
  have hNM : N = Hs.length + 1 := by have := HN.out; rw [hG] at this; simpa using this.symm
  have hTg : T ≠ g := by
    intro e'; subst e'
    exact P1h.out.blk.notRow P1h.out.row (by decide) rfl
  have hgW : g < W5.heap.size := P1h.out.lt g (P1h.out.inA g rfl)
  have HTG := Lib.hid hTg
  have HGW := Lib.hid hgW
  have HQ := Lib.hid q0
  have HQF := Lib.hid qf
  have HGB := Lib.hid hgb
  have HNM := Lib.hid hNM
  clear hTg hgW qf hgb hNM
  have FN := Lib.hid (fun (v9 : Value) (w9 : World) (l : List UInt8) hW ho => RsOk.shut (w := w) (v9 := v9) (w9 := w9) (l := l) P1h.out O5h.out hW ho)
  generalize hM : Hs.length = M at *
  clear hM
  have hMi : (N : Int) = (M : Int) + 1 := by have := HNM.out; omega
  have hM2 : M ≤ 1000 := by have := HNM.out; omega
  rw [hMi]
  have CEL : Hid (∀ W, Below W5.heap.size W5 W → W.cell? ⟨T, 0, none⟩ = some (.slice (some ⟨g, 0, none⟩) N cg)) := fun W hW => (P1h.out.below hW).cells.1.1
  have BBS : Hid (∀ W, Below W5.heap.size W5 W → Bs W Ag ng GB) := fun W hW => HGB.out.below hW
  have WBS : Hid (∀ W, Below W5.heap.size W5 W → Bs W A2 n2 RB) := fun W hW => B5h.out.below hW
  have QB : Hid (∀ W, Below W5.heap.size W5 W → W.cell? ⟨g, M * 5 + 4, none⟩ = some (.slice Ag ng cgg) ∧ W.frozen? ⟨g, M * 5 + 4, none⟩ = false) := fun W hW => ⟨(hW.cell HGW.out).trans HQ.out, by
    have h1 := hW.block g HGW.out
    have h2 := HQF.out
    unfold World.frozen? at h2 ⊢
    rw [h1]; exact h2⟩
  clear q0 f0 s0
  have i1 : (M : Int) < (M : Int) + 1 := by omega
  have hwM : IntKind.i64.wrap (M : Int) = (M : Int) := by rw [IntKind.wrap_i64]; omega
  refine wp_region_held_drew (S := fun W => W.cell? ⟨T, 0, none⟩ = some (.slice (some ⟨g, 0, none⟩) N cg)) (by kernel_rfl) ?hb0 (fun hHeld => ?_)
  case hb0 => (try dsimp only); exact CEL.out _ (Below.drew (Below.refl W5.heap.size W5))
  refine wpAnyH_take (i := 0) (v := ?qv0) rfl (by kernel_rfl) (by kernel_rfl) (by kernel_rfl) (fun _ _ _ h => h) (Or.inl ⟨by kernel_rfl, ?qy0⟩) (by assumption) ?_
  case qy0 => (intro w hSw; (try dsimp only at hSw); go_simp) <;> (try with_reducible rfl)
  try simp only [Act.put, List.setIfInBounds_toArray, List.set_cons_zero, List.set_cons_succ, List.getElem_toArray, List.getElem_cons_succ, List.getElem_cons_zero]
  refine wpAnyH_take (i := 1) (v := ?qv1) rfl (by kernel_rfl) (by kernel_rfl) (by kernel_rfl) (fun _ _ _ h => h) (Or.inl ⟨by kernel_rfl, ?qy1⟩) (by assumption) ?_
  case qy1 => (intro w hSw; (try dsimp only at hSw); go_simp) <;> (try with_reducible rfl)
  try simp only [Act.put, List.setIfInBounds_toArray, List.set_cons_zero, List.set_cons_succ, List.getElem_toArray, List.getElem_cons_succ, List.getElem_cons_zero]
  refine wpAnyH_take (i := 2) (v := ?qv2) rfl (by kernel_rfl) (by kernel_rfl) (by kernel_rfl) (fun _ _ _ h => h) (Or.inl ⟨by kernel_rfl, ?qy2⟩) (by assumption) ?_
  case qy2 => (intro w hSw; (try dsimp only at hSw); go_simp) <;> (try with_reducible rfl)
  try simp only [Act.put, List.setIfInBounds_toArray, List.set_cons_zero, List.set_cons_succ, List.getElem_toArray, List.getElem_cons_succ, List.getElem_cons_zero]
  refine wpAnyH_take (i := 3) (v := ?qv3) rfl (by kernel_rfl) (by kernel_rfl) (by kernel_rfl) (fun _ _ _ h => h) (Or.inl ⟨by kernel_rfl, ?qy3⟩) (by assumption) ?_
  case qy3 => (intro w hSw; (try dsimp only at hSw); go_simp) <;> (try with_reducible rfl)
  try simp only [Act.put, List.setIfInBounds_toArray, List.set_cons_zero, List.set_cons_succ, List.getElem_toArray, List.getElem_cons_succ, List.getElem_cons_zero]
  refine wpAnyH_take (i := 4) (v := ?qv4) rfl (by kernel_rfl) (by kernel_rfl) (by kernel_rfl) (fun _ _ _ h => h) (Or.inl ⟨by kernel_rfl, ?qy4⟩) (by assumption) ?_
  case qy4 => (intro w hSw; (try dsimp only at hSw); go_simp) <;> (try with_reducible rfl)
  try simp only [Act.put, List.setIfInBounds_toArray, List.set_cons_zero, List.set_cons_succ, List.getElem_toArray, List.getElem_cons_succ, List.getElem_cons_zero]
  refine wpAnyH_take (i := 5) (v := ?qv5) rfl (by kernel_rfl) (by kernel_rfl) (by kernel_rfl) (fun _ _ _ h => h) (Or.inl ⟨by kernel_rfl, ?qy5⟩) (by assumption) ?_
  case qy5 => (intro w hSw; (try dsimp only at hSw); go_simp) <;> (try with_reducible rfl)
  try simp only [Act.put, List.setIfInBounds_toArray, List.set_cons_zero, List.set_cons_succ, List.getElem_toArray, List.getElem_cons_succ, List.getElem_cons_zero]
  refine wpAnyH_take (i := 7) (v := ?qv7) rfl (by kernel_rfl) (by kernel_rfl) (by kernel_rfl) (fun _ _ _ h => h) (Or.inl ⟨by kernel_rfl, ?qy7⟩) (by assumption) ?_
  case qy7 => (intro w hSw; (try dsimp only at hSw); go_simp) <;> (try with_reducible rfl)
  try simp only [Act.put, List.setIfInBounds_toArray, List.set_cons_zero, List.set_cons_succ, List.getElem_toArray, List.getElem_cons_succ, List.getElem_cons_zero]
  refine wpAnyH_take (i := 8) (v := ?qv8) rfl (by kernel_rfl) (by kernel_rfl) (by kernel_rfl) (fun _ _ _ h => h) (Or.inl ⟨by kernel_rfl, ?qy8⟩) (by assumption) ?_
  case qy8 => (intro w hSw; (try dsimp only at hSw); go_simp) <;> (try with_reducible rfl)
  try simp only [Act.put, List.setIfInBounds_toArray, List.set_cons_zero, List.set_cons_succ, List.getElem_toArray, List.getElem_cons_succ, List.getElem_cons_zero]
  refine wpAnyH_take (i := 9) (v := ?qv9) rfl (by kernel_rfl) (by kernel_rfl) (by kernel_rfl) (fun _ _ _ h => h) (Or.inl ⟨by kernel_rfl, ?qy9⟩) (by assumption) ?_
  case qy9 => (intro w hSw; (try dsimp only at hSw); go_simp) <;> (try with_reducible rfl)
  try simp only [Act.put, List.setIfInBounds_toArray, List.set_cons_zero, List.set_cons_succ, List.getElem_toArray, List.getElem_cons_succ, List.getElem_cons_zero]
  refine wpAnyH_take (i := 10) (v := ?qv10) rfl (by kernel_rfl) (by kernel_rfl) (by kernel_rfl) (fun _ _ _ h => h) (Or.inl ⟨by kernel_rfl, ?qy10⟩) (by assumption) ?_
  case qy10 => (intro w hSw; (try dsimp only at hSw); go_simp) <;> (try with_reducible rfl)
  try simp only [Act.put, List.setIfInBounds_toArray, List.set_cons_zero, List.set_cons_succ, List.getElem_toArray, List.getElem_cons_succ, List.getElem_cons_zero]
  refine wpAnyH_take (i := 11) (v := ?qv11) rfl (by kernel_rfl) (by kernel_rfl) (by kernel_rfl) (fun _ _ _ h => h) (Or.inl ⟨by kernel_rfl, ?qy11⟩) (by assumption) ?_
  case qy11 => (intro w hSw; (try dsimp only at hSw); go_simp) <;> (try with_reducible rfl)
  try simp only [Act.put, List.setIfInBounds_toArray, List.set_cons_zero, List.set_cons_succ, List.getElem_toArray, List.getElem_cons_succ, List.getElem_cons_zero]
  refine wpAnyH_take (i := 12) (v := ?qv12) rfl (by kernel_rfl) (by kernel_rfl) (by kernel_rfl) (fun _ _ _ h => h) (Or.inl ⟨by kernel_rfl, ?qy12⟩) (by assumption) ?_
  case qy12 => (intro w hSw; (try dsimp only at hSw); go_simp) <;> (try with_reducible rfl)
  try simp only [Act.put, List.setIfInBounds_toArray, List.set_cons_zero, List.set_cons_succ, List.getElem_toArray, List.getElem_cons_succ, List.getElem_cons_zero]
  refine wpAnyH_take (i := 13) (v := ?qv13) rfl (by kernel_rfl) (by kernel_rfl) (by kernel_rfl) (fun _ _ _ h => h) (Or.inl ⟨by kernel_rfl, ?qy13⟩) (by assumption) ?_
  case qy13 => (intro w hSw; (try dsimp only at hSw); go_simp) <;> (try with_reducible rfl)
  try simp only [Act.put, List.setIfInBounds_toArray, List.set_cons_zero, List.set_cons_succ, List.getElem_toArray, List.getElem_cons_succ, List.getElem_cons_zero]
  refine wpAnyH_take (i := 14) (v := ?qv14) rfl (by kernel_rfl) (by kernel_rfl) (by kernel_rfl) (fun _ _ _ h => h) (Or.inl ⟨by kernel_rfl, ?qy14⟩) (by assumption) ?_
  case qy14 => (intro w hSw; (try dsimp only at hSw); go_simp) <;> (try with_reducible rfl)
  try simp only [Act.put, List.setIfInBounds_toArray, List.set_cons_zero, List.set_cons_succ, List.getElem_toArray, List.getElem_cons_succ, List.getElem_cons_zero]
  refine wpAnyH_take (i := 17) (v := ?qv17) rfl (by kernel_rfl) (by kernel_rfl) (by kernel_rfl) (fun _ _ _ h => h) (Or.inl ⟨by kernel_rfl, ?qy17⟩) (by assumption) ?_
  case qy17 => (intro w hSw; (try dsimp only at hSw); go_simp) <;> (try with_reducible rfl)
  try simp only [Act.put, List.setIfInBounds_toArray, List.set_cons_zero, List.set_cons_succ, List.getElem_toArray, List.getElem_cons_succ, List.getElem_cons_zero]
  refine wpAnyH_ready (rs := [6, 15]) (by kernel_rfl) (by simp) ?_
  refine AllReadyH.cons rfl (fun K hK => ?_) (AllReadyH.cons rfl (fun K hK => ?_) (AllReadyH.nil))
  · go_simp
    refine hK.out _ _ ?hs6a (fun hHeld => ?_)
    case hs6a => (try dsimp only); exact CEL.out _ ((below_alloc1 W5 (.cells #[] 5)).drew)
    clear hK K
    try simp only [Act.put, List.setIfInBounds_toArray, List.set_cons_zero, List.set_cons_succ, List.getElem_toArray, List.getElem_cons_succ, List.getElem_cons_zero]
    refine wpAnyH_ready (rs := [15]) (by kernel_rfl) (by simp) ?_
    refine AllReadyH.cons rfl (fun K hK => ?_) AllReadyH.nil
    obtain ⟨s0, _⟩ := QB.out _ ((below_alloc1 W5 (.cells #[] 5)).drew)
    go_simp
    refine hK.out _ _ ?hs15w6a (fun hHeld => ?_)
    case hs15w6a => (try dsimp only); exact CEL.out _ ((below_alloc1 W5 (.cells #[] 5)).drew)
    clear hK K
    try simp only [Act.put, List.setIfInBounds_toArray, List.set_cons_zero, List.set_cons_succ, List.getElem_toArray, List.getElem_cons_succ, List.getElem_cons_zero]
    refine wpAnyH_ready (rs := [16]) (by kernel_rfl) (by simp) ?_
    refine AllReadyH.cons rfl (fun K hK => ?_) AllReadyH.nil
    have hoA : Ob (W5.alloc (.cells #[] 5)).drew W5.heap.size 5 (.slice (some ⟨W5.heap.size, 0, none⟩) 0 0) [] := World.ownsRow_made W5 #[] 0 (Nat.le_refl _) (Nat.zero_le _) rfl
    have hbA := BBS.out (W5.alloc (.cells #[] 5)).drew ((below_alloc1 W5 (.cells #[] 5)).drew)
    refine step_appendB rfl _ _ 41 rfl W5.heap.size 5 i0 (.int .u8 0) Try.underlying41 hi hz0 hz1 hz2 rfl _ [] rfl hoA _ _ _ GB rfl hbA (by simp; omega) (by simp) ?_
    intro v7 w7 hob7 hg7 _ _
    rw [List.nil_append] at hob7
    have z7 : Below W5.heap.size W5 w7 := ((below_alloc1 W5 (.cells #[] 5)).drew).grown ⟨hg7.os, hg7.tape, hg7.output, hg7.size, hg7.block⟩ (by simp) (fun k hk => (hoA.lt k hk).1)
    obtain ⟨A7, c7, rfl, _, _⟩ := hob7.slice
    have hf8 := hGl.out
    refine hK.out _ _ ?hs16w6a (fun hHeld => ?_)
    case hs16w6a => (try dsimp only); exact CEL.out _ z7
    clear hK K
    try simp only [Act.put, List.setIfInBounds_toArray, List.set_cons_zero, List.set_cons_succ, List.getElem_toArray, List.getElem_cons_succ, List.getElem_cons_zero]
    refine wpAnyH_ready (rs := [18]) (by kernel_rfl) (by simp) ?_
    refine AllReadyH.cons rfl (fun K hK => ?_) AllReadyH.nil
    have hbs8 := WBS.out _ z7
    refine step_appendB rfl _ _ 41 rfl W5.heap.size 5 i0 (.int .u8 0) Try.underlying41 hi hz0 hz1 hz2 rfl _ GB rfl hob7 _ _ _ RB rfl hbs8 (by omega) z7.size ?_
    intro v9 w9 hob9 hg9 _ _
    have z9 : Below W5.heap.size W5 w9 := z7.grown ⟨hg9.os, hg9.tape, hg9.output, hg9.size, hg9.block⟩ z7.size (fun k hk => (hob7.lt k hk).1)
    obtain ⟨A9, c9, rfl, _, _⟩ := hob9.slice
    have hX := Lib.hid (FN.out _ _ _ z9 hob9)
    refine hK.out _ _ ?hs18w6a (fun hHeld => ?_)
    case hs18w6a => (try dsimp only); exact CEL.out _ z9
    clear hK K
    try simp only [Act.put, List.setIfInBounds_toArray, List.set_cons_zero, List.set_cons_succ, List.getElem_toArray, List.getElem_cons_succ, List.getElem_cons_zero]
    refine wpAnyH_take (i := 19) (v := ?qv19w6) rfl (by kernel_rfl) (by kernel_rfl) (by kernel_rfl) (fun _ _ _ h => h) (Or.inl ⟨by kernel_rfl, ?qy19w6⟩) (by assumption) ?_
    case qy19w6 => (intro w hSw; (try dsimp only at hSw); go_simp) <;> (try with_reducible rfl)
    try simp only [Act.put, List.setIfInBounds_toArray, List.set_cons_zero, List.set_cons_succ, List.getElem_toArray, List.getElem_cons_succ, List.getElem_cons_zero]
    refine wpAnyH_take (i := 20) (v := ?qv20w6) rfl (by kernel_rfl) (by kernel_rfl) (by kernel_rfl) (fun _ _ _ h => h) (Or.inl ⟨by kernel_rfl, ?qy20w6⟩) (by assumption) ?_
    case qy20w6 => (intro w hSw; (try dsimp only at hSw); go_simp) <;> (try with_reducible rfl)
    try simp only [Act.put, List.setIfInBounds_toArray, List.set_cons_zero, List.set_cons_succ, List.getElem_toArray, List.getElem_cons_succ, List.getElem_cons_zero]
    refine wpAnyH_ready (rs := [21]) (by kernel_rfl) (by simp) ?_
    refine AllReadyH.cons rfl (fun K hK => ?_) AllReadyH.nil
    obtain ⟨s0, s1⟩ := QB.out _ z9
    go_simp
    refine hK.out _ _ ?hs21w6a (fun hHeld => ?_)
    case hs21w6a => (try dsimp only); exact (cell_other (HTG.out) _).trans (CEL.out _ z9)
    clear hK K
    try simp only [Act.put, List.setIfInBounds_toArray, List.set_cons_zero, List.set_cons_succ, List.getElem_toArray, List.getElem_cons_succ, List.getElem_cons_zero]
    refine wpAnyH_done (by kernel_rfl) ?_ _
    go_wp2
    go_end0
    exact ⟨rfl, by have h := hX.out; rw [List.length_append] at h; exact h⟩
  · obtain ⟨s0, _⟩ := QB.out _ (Below.drew (Below.refl W5.heap.size W5))
    go_simp
    refine hK.out _ _ ?hs15a (fun hHeld => ?_)
    case hs15a => (try dsimp only); exact CEL.out _ (Below.drew (Below.refl W5.heap.size W5))
    clear hK K
    try simp only [Act.put, List.setIfInBounds_toArray, List.set_cons_zero, List.set_cons_succ, List.getElem_toArray, List.getElem_cons_succ, List.getElem_cons_zero]
    refine wpAnyH_ready (rs := [6]) (by kernel_rfl) (by simp) ?_
    refine AllReadyH.cons rfl (fun K hK => ?_) AllReadyH.nil
    go_simp
    refine hK.out _ _ ?hs6w15a (fun hHeld => ?_)
    case hs6w15a => (try dsimp only); exact CEL.out _ ((below_alloc1 W5 (.cells #[] 5)).drew)
    clear hK K
    try simp only [Act.put, List.setIfInBounds_toArray, List.set_cons_zero, List.set_cons_succ, List.getElem_toArray, List.getElem_cons_succ, List.getElem_cons_zero]
    refine wpAnyH_ready (rs := [16]) (by kernel_rfl) (by simp) ?_
    refine AllReadyH.cons rfl (fun K hK => ?_) AllReadyH.nil
    have hoA : Ob (W5.alloc (.cells #[] 5)).drew W5.heap.size 5 (.slice (some ⟨W5.heap.size, 0, none⟩) 0 0) [] := World.ownsRow_made W5 #[] 0 (Nat.le_refl _) (Nat.zero_le _) rfl
    have hbA := BBS.out (W5.alloc (.cells #[] 5)).drew ((below_alloc1 W5 (.cells #[] 5)).drew)
    refine step_appendB rfl _ _ 41 rfl W5.heap.size 5 i0 (.int .u8 0) Try.underlying41 hi hz0 hz1 hz2 rfl _ [] rfl hoA _ _ _ GB rfl hbA (by simp; omega) (by simp) ?_
    intro v7 w7 hob7 hg7 _ _
    rw [List.nil_append] at hob7
    have z7 : Below W5.heap.size W5 w7 := ((below_alloc1 W5 (.cells #[] 5)).drew).grown ⟨hg7.os, hg7.tape, hg7.output, hg7.size, hg7.block⟩ (by simp) (fun k hk => (hoA.lt k hk).1)
    obtain ⟨A7, c7, rfl, _, _⟩ := hob7.slice
    have hf8 := hGl.out
    refine hK.out _ _ ?hs16w15a (fun hHeld => ?_)
    case hs16w15a => (try dsimp only); exact CEL.out _ z7
    clear hK K
    try simp only [Act.put, List.setIfInBounds_toArray, List.set_cons_zero, List.set_cons_succ, List.getElem_toArray, List.getElem_cons_succ, List.getElem_cons_zero]
    refine wpAnyH_ready (rs := [18]) (by kernel_rfl) (by simp) ?_
    refine AllReadyH.cons rfl (fun K hK => ?_) AllReadyH.nil
    have hbs8 := WBS.out _ z7
    refine step_appendB rfl _ _ 41 rfl W5.heap.size 5 i0 (.int .u8 0) Try.underlying41 hi hz0 hz1 hz2 rfl _ GB rfl hob7 _ _ _ RB rfl hbs8 (by omega) z7.size ?_
    intro v9 w9 hob9 hg9 _ _
    have z9 : Below W5.heap.size W5 w9 := z7.grown ⟨hg9.os, hg9.tape, hg9.output, hg9.size, hg9.block⟩ z7.size (fun k hk => (hob7.lt k hk).1)
    obtain ⟨A9, c9, rfl, _, _⟩ := hob9.slice
    have hX := Lib.hid (FN.out _ _ _ z9 hob9)
    refine hK.out _ _ ?hs18w15a (fun hHeld => ?_)
    case hs18w15a => (try dsimp only); exact CEL.out _ z9
    clear hK K
    try simp only [Act.put, List.setIfInBounds_toArray, List.set_cons_zero, List.set_cons_succ, List.getElem_toArray, List.getElem_cons_succ, List.getElem_cons_zero]
    refine wpAnyH_take (i := 19) (v := ?qv19w15) rfl (by kernel_rfl) (by kernel_rfl) (by kernel_rfl) (fun _ _ _ h => h) (Or.inl ⟨by kernel_rfl, ?qy19w15⟩) (by assumption) ?_
    case qy19w15 => (intro w hSw; (try dsimp only at hSw); go_simp) <;> (try with_reducible rfl)
    try simp only [Act.put, List.setIfInBounds_toArray, List.set_cons_zero, List.set_cons_succ, List.getElem_toArray, List.getElem_cons_succ, List.getElem_cons_zero]
    refine wpAnyH_take (i := 20) (v := ?qv20w15) rfl (by kernel_rfl) (by kernel_rfl) (by kernel_rfl) (fun _ _ _ h => h) (Or.inl ⟨by kernel_rfl, ?qy20w15⟩) (by assumption) ?_
    case qy20w15 => (intro w hSw; (try dsimp only at hSw); go_simp) <;> (try with_reducible rfl)
    try simp only [Act.put, List.setIfInBounds_toArray, List.set_cons_zero, List.set_cons_succ, List.getElem_toArray, List.getElem_cons_succ, List.getElem_cons_zero]
    refine wpAnyH_ready (rs := [21]) (by kernel_rfl) (by simp) ?_
    refine AllReadyH.cons rfl (fun K hK => ?_) AllReadyH.nil
    obtain ⟨s0, s1⟩ := QB.out _ z9
    go_simp
    refine hK.out _ _ ?hs21w15a (fun hHeld => ?_)
    case hs21w15a => (try dsimp only); exact (cell_other (HTG.out) _).trans (CEL.out _ z9)
    clear hK K
    try simp only [Act.put, List.setIfInBounds_toArray, List.set_cons_zero, List.set_cons_succ, List.getElem_toArray, List.getElem_cons_succ, List.getElem_cons_zero]
    refine wpAnyH_done (by kernel_rfl) ?_ _
    go_wp2
    go_end0
    exact ⟨rfl, by have h := hX.out; rw [List.length_append] at h; exact h⟩

/-! ### Zf -/
set_option maxHeartbeats 6400000 in
theorem ref8DoShutZ (T : Nat) (rp : List Nat) (Gs : List Fr) (F : Fr) (rv : Value) (t : Tg) (x : Int) (w : World) (h : Rs w T rp (Gs ++ [F]) 0) (h1 : Gs ≠ []) (hl : Gs.length ≤ 1000) (hF : F.b.length ≤ 10000000) (hs : F.set = true) (hw : (whs F.b 0).2 ≠ 0) :
    Calls Try.prog 17 #[.pointer (some ⟨T, 0, none⟩), actv 3 rv t x] w fun e w' => e = .returned (.tuple #[]) ∧ RsOk w T rp (Gs ++ [F]) (whs F.b 0).2 w' := by
  obtain ⟨i0, hi, hz0, hz1, hz2⟩ := info_parts u8_info
  have hb := below_alloc1 w (.cells #[.int .i64 3, rv, .int .i64 t.cls, .int .i64 t.num, .bool t.made, .int .i64 x] 31)
  have hA : Blk (w.alloc (.cells #[.int .i64 3, rv, .int .i64 t.cls, .int .i64 t.num, .bool t.made, .int .i64 x] 31)) w.heap.size 31 [.int .i64 3, rv, .int .i64 t.cls, .int .i64 t.num, .bool t.made, .int .i64 x] := Blk.new w _ _
  obtain ⟨va, vs, hT0⟩ := h
  have hT := hT0.below hb
  have hrpl := hT0.lt
  obtain ⟨g, cg, rfl, hc, hgr⟩ := hT.vaForm (by simp)
  have hgl : g < w.heap.size := hrpl g hgr
  have hTl : T < w.heap.size := hrpl T hT0.inT
  unfold actv
  rw [List.length_append, List.length_singleton] at hT hc
  have hsz : w.heap.size < (w.alloc (.cells #[.int .i64 3, rv, .int .i64 t.cls, .int .i64 t.num, .bool t.made, .int .i64 x] 31)).heap.size := hA.lt
  obtain ⟨⟨c0, c1⟩, hfr⟩ := hT.cells
  obtain ⟨Ab, nb, cb, ⟨p0, p1, p2, p3, p4⟩, hbb, hnb⟩ := hT.lastCells
  have k0 : (w.alloc (.cells #[.int .i64 3, rv, .int .i64 t.cls, .int .i64 t.num, .bool t.made, .int .i64 x] 31)).cell? ⟨w.heap.size, 0, none⟩ = some (.int .i64 3) := hA.cell 0
  have hN1 : Gs.length ≠ 0 := fun h => h1 (List.eq_nil_of_length_eq_zero h)
  have e0 : ((Gs.length : Int) == 0) = false := by simp; exact h1
  have HT := Lib.hid hT
  have HB := Lib.hid hb
  have HSZ := Lib.hid hsz
  have HGL := Lib.hid hgl
  have HTL := Lib.hid hTl
  have HHL := Lib.hid hl
  have HBB := Lib.hid hbb
  have hFl := Lib.hid hF
  have hnb2 : nb ≤ 10000000 := by have := hbb.len; omega
  clear hT hT0 hA hb hsz hgl hTl hrpl hgr hbb hF
  generalize hN : Gs.length = N at *
  generalize hFBl : F.b = FB at *
  have HN := Lib.hid hN
  clear hN
  generalize hEN : (whs FB 0).2 = EN at *
  have eE : (EN != 0) = true := by simpa using hw
  go_enter Try.func17, Try.ntmps17
  go_upto_region 1 with (fail)
  generalize w.alloc (.cells #[.int .i64 3, rv, .int .i64 t.cls, .int .i64 t.num, .bool t.made, .int .i64 x] 31) = W0 at *
  go_upto_region 13 with (fail)
  go_upto_region 14 with (fail)
  have hFR : Blk (W0.alloc (.cells #[.int .i64 F.t.cls, .int .i64 F.t.num, .bool F.t.made, .bool true, .slice Ab nb cb] 88)) W0.heap.size 88 [.int .i64 F.t.cls, .int .i64 F.t.num, .bool F.t.made, .bool true, .slice Ab nb cb] := Blk.new W0 _ _
  have hB1 := below_alloc1 W0 (.cells #[.int .i64 F.t.cls, .int .i64 F.t.num, .bool F.t.made, .bool true, .slice Ab nb cb] 88)
  have y0 := hFR.cell 0
  have y1 := hFR.cell 1
  have y2 := hFR.cell 2
  have y3 := hFR.cell 3
  have y4 := hFR.cell 4
  simp only [List.getElem?_cons_zero, List.getElem?_cons_succ] at y0 y1 y2 y3 y4
  have HFR := Lib.hid hFR
  have HB1 := Lib.hid hB1
  clear hFR hB1 p0 p1 p2 p3 p4
  generalize W0.alloc (.cells #[.int .i64 F.t.cls, .int .i64 F.t.num, .bool F.t.made, .bool true, .slice Ab nb cb] 88) = W1 at *
  have hWh : Hid (∀ W, Below W0.heap.size W0 W → Calls Try.prog 39 #[.slice Ab nb cb, .int .i64 0] W fun e w' => ∃ A c, e = .returned (.tuple #[.slice A (whs FB 0).1.length c, .int .i64 EN]) ∧ Bss w' A (whs FB 0).1.length (whs FB 0).1 ∧ Below W.heap.size W w') := fun W hW =>
    (ref8Wholes Ab nb cb 0 0 FB W (HBB.out.below hW) hnb (by omega) (Nat.zero_le _) rfl).mono fun e w' h => by
      obtain ⟨A, n, c, us, he, hn, hro, hv, hb⟩ := h
      subst hn
      obtain ⟨A9, c9, hq, _, hb9⟩ := bss_own hro hv
      rw [hq, hEN] at he
      exact ⟨A9, c9, he, hb9, hb⟩
  have FN : Hid (∀ W2, Below W0.heap.size W0 W2 → RsOk w T rp (Gs ++ [F]) EN (W2.setCell ⟨T, 1, none⟩ (.int .i64 EN))) := Lib.hid fun W2 hW => RsOk.err EN HT.out HB.out hW
  have hENh := Lib.hid hEN
  clear hEN hw
  generalize (whs FB 0).1 = LL at *
  go_upto_region 15 with (fail)
  go_wp2_with fail
  refine (hWh.out _ HB1.out).mono ?_
  rintro e w2 ⟨A2, c2, rfl, _, hb2⟩
  have HB2 := Lib.hid (HB1.out.trans (hb2.mono HB1.out.size))
  have f1 := (HT.out.below HB2.out).cells.2 1
  have s1 := (HT.out.below HB2.out).cells.1.2
  clear hb2 hfr c0 c1 k0 y0 y1 y2 y3 y4 hWh
  go_wp2
  refine bodyPost_ret (results_none rfl _ _ _) rfl ?_
  exact ⟨rfl, FN.out _ HB2.out⟩

set_option maxHeartbeats 6400000 in
theorem ref8DoShutU (T : Nat) (rp : List Nat) (Gs : List Fr) (F : Fr) (rv : Value) (t : Tg) (x : Int) (w : World) (h : Rs w T rp (Gs ++ [F]) 0) (h1 : Gs ≠ []) (hl : Gs.length ≤ 1000) (hF : F.b.length ≤ 10000000) (Hs : List Fr) (G : Fr) (hG : Gs = Hs ++ [G]) (hGb : G.b.length ≤ 10000000) (hs : F.set = true) (ht : F.t = ⟨0, 17, true⟩) (hFb2 : F.b.length ≤ 100000) (hw : (whs F.b 0).2 = 0) :
    Calls Try.prog 17 #[.pointer (some ⟨T, 0, none⟩), actv 3 rv t x] w fun e w' => e = .returned (.tuple #[]) ∧ RsOk w T rp (Hs ++ [⟨G.t, G.set, G.b ++ wrapB ⟨0, 17, true⟩ (ordO (whs F.b 0).1).flatten⟩]) 0 w' := by
  obtain ⟨i0, hi, hz0, hz1, hz2⟩ := info_parts u8_info
  have hb := below_alloc1 w (.cells #[.int .i64 3, rv, .int .i64 t.cls, .int .i64 t.num, .bool t.made, .int .i64 x] 31)
  have hA : Blk (w.alloc (.cells #[.int .i64 3, rv, .int .i64 t.cls, .int .i64 t.num, .bool t.made, .int .i64 x] 31)) w.heap.size 31 [.int .i64 3, rv, .int .i64 t.cls, .int .i64 t.num, .bool t.made, .int .i64 x] := Blk.new w _ _
  obtain ⟨va, vs, hT0⟩ := h
  have hT := hT0.below hb
  have hrpl := hT0.lt
  obtain ⟨g, cg, rfl, hc, hgr⟩ := hT.vaForm (by simp)
  have hgl : g < w.heap.size := hrpl g hgr
  have hTl : T < w.heap.size := hrpl T hT0.inT
  unfold actv
  rw [List.length_append, List.length_singleton] at hT hc
  have hsz : w.heap.size < (w.alloc (.cells #[.int .i64 3, rv, .int .i64 t.cls, .int .i64 t.num, .bool t.made, .int .i64 x] 31)).heap.size := hA.lt
  obtain ⟨⟨c0, c1⟩, hfr⟩ := hT.cells
  obtain ⟨Ab, nb, cb, ⟨p0, p1, p2, p3, p4⟩, hbb, hnb⟩ := hT.lastCells
  have k0 : (w.alloc (.cells #[.int .i64 3, rv, .int .i64 t.cls, .int .i64 t.num, .bool t.made, .int .i64 x] 31)).cell? ⟨w.heap.size, 0, none⟩ = some (.int .i64 3) := hA.cell 0
  have hN1 : Gs.length ≠ 0 := fun h => h1 (List.eq_nil_of_length_eq_zero h)
  have e0 : ((Gs.length : Int) == 0) = false := by simp; exact h1
  have HT := Lib.hid hT
  have HB := Lib.hid hb
  have HSZ := Lib.hid hsz
  have HGL := Lib.hid hgl
  have HTL := Lib.hid hTl
  have HHL := Lib.hid hl
  have HBB := Lib.hid hbb
  have hFl := Lib.hid hF
  have hnb2 : nb ≤ 10000000 := by have := hbb.len; omega
  clear hT hT0 hA hb hsz hgl hTl hrpl hgr hbb hF
  have hGl := Lib.hid hGb
  have htH := Lib.hid ht
  clear hGb ht
  have hsh : Short 1099511627776 (whs F.b 0).1 := by
    intro k
    rcases Nat.lt_or_ge k (whs F.b 0).1.length with hk | hk
    · have := whs_short F.b _ 0 (Nat.le_refl _) _ (rowL_mem hk); omega
    · unfold rowL; rw [List.getD_eq_getElem?_getD, List.getElem?_eq_none hk]; simp
  have hcn : (whs F.b 0).1.length ≤ 100000 := Nat.le_trans (whs_count F.b _ 0 (Nat.le_refl _)) (by omega)
  have hto : (ordO (whs F.b 0).1).flatten.length ≤ 100000 := by rw [flatten_perm_length (ordO_perm _)]; exact Nat.le_trans (whs_total F.b _ 0 (Nat.le_refl _)) (by omega)
  have hol : (ordO (whs F.b 0).1).length = (whs F.b 0).1.length := (ordO_perm _).length_eq
  generalize hN : Gs.length = N at *
  generalize hFBl : F.b = FB at *
  have HN := Lib.hid hN
  clear hN
  generalize hEN : (whs FB 0).2 = EN at *
  subst hw
  generalize hOF : (ordO (whs FB 0).1).flatten = OF at *
  have hRl : (wrapB ⟨0, 17, true⟩ OF).length ≤ 10000009 := Nat.le_trans (wrapB_le9 _ _) (by omega)
  generalize hRBl : wrapB ⟨0, 17, true⟩ OF = RB at *
  generalize hGBl : G.b = GB at *
  go_enter Try.func17, Try.ntmps17
  go_upto_region 1 with (fail)
  generalize w.alloc (.cells #[.int .i64 3, rv, .int .i64 t.cls, .int .i64 t.num, .bool t.made, .int .i64 x] 31) = W0 at *
  go_upto_region 13 with (fail)
  go_upto_region 14 with (fail)
  have hFR : Blk (W0.alloc (.cells #[.int .i64 F.t.cls, .int .i64 F.t.num, .bool F.t.made, .bool true, .slice Ab nb cb] 88)) W0.heap.size 88 [.int .i64 F.t.cls, .int .i64 F.t.num, .bool F.t.made, .bool true, .slice Ab nb cb] := Blk.new W0 _ _
  have hB1 := below_alloc1 W0 (.cells #[.int .i64 F.t.cls, .int .i64 F.t.num, .bool F.t.made, .bool true, .slice Ab nb cb] 88)
  have y0 := hFR.cell 0
  have y1 := hFR.cell 1
  have y2 := hFR.cell 2
  have y3 := hFR.cell 3
  have y4 := hFR.cell 4
  simp only [List.getElem?_cons_zero, List.getElem?_cons_succ] at y0 y1 y2 y3 y4
  have HFR := Lib.hid hFR
  have HB1 := Lib.hid hB1
  clear hFR hB1 p0 p1 p2 p3 p4
  generalize W0.alloc (.cells #[.int .i64 F.t.cls, .int .i64 F.t.num, .bool F.t.made, .bool true, .slice Ab nb cb] 88) = W1 at *
  have hWh : Hid (∀ W, Below W0.heap.size W0 W → Calls Try.prog 39 #[.slice Ab nb cb, .int .i64 0] W fun e w' => ∃ A c, e = .returned (.tuple #[.slice A (whs FB 0).1.length c, .int .i64 0]) ∧ Bss w' A (whs FB 0).1.length (whs FB 0).1 ∧ Below W.heap.size W w') := fun W hW =>
    (ref8Wholes Ab nb cb 0 0 FB W (HBB.out.below hW) hnb (by omega) (Nat.zero_le _) rfl).mono fun e w' h => by
      obtain ⟨A, n, c, us, he, hn, hro, hv, hb⟩ := h
      subst hn
      obtain ⟨A9, c9, hq, _, hb9⟩ := bss_own hro hv
      rw [hq, hEN] at he
      exact ⟨A9, c9, he, hb9, hb⟩
  have hOr : Hid (∀ A c W, Bss W A (whs FB 0).1.length (whs FB 0).1 → Calls Try.prog 33 #[.slice A (whs FB 0).1.length c] W fun e w' => ∃ A c, e = .returned (.slice A (whs FB 0).1.length c) ∧ Bss w' A (whs FB 0).1.length (ordO (whs FB 0).1) ∧ Below W.heap.size W w') := fun A c W hb =>
    (ref8Order A _ c _ W hb (by omega) hsh).mono fun e w' h => by
      obtain ⟨vo, us, he, hro, hvo, hb'⟩ := h
      obtain ⟨A9, c9, rfl, _, hb9⟩ := bss_own hro (hvo.keep fun A n l h => h.below hb')
      exact ⟨A9, c9, he, hb9, hb'⟩
  have hJo : Hid (∀ A c W, Bss W A (whs FB 0).1.length (ordO (whs FB 0).1) → Calls Try.prog 23 #[.slice A (whs FB 0).1.length c] W (NewBs W OF)) := fun A c W hb => by
    have := refJoin A _ c _ W hb (by omega) (by rw [hOF]; omega)
    rw [hOF] at this
    exact this
  have hOFl := Lib.hid hto
  have hWr : Hid (∀ A n c W, Bs W A n OF → Calls Try.prog 50 #[.agg #[.int .i64 F.t.cls, .int .i64 F.t.num, .bool F.t.made], .slice A n c] W fun e w' => ∃ A n c, e = .returned (.tuple #[.slice A n c, .int .i64 0]) ∧ Ob w' W.heap.size 5 (.slice A n c) RB ∧ Below W.heap.size W w') := fun A n c W hW =>
    (ref8wrap F.t A n c OF W hW (by have := hW.len; omega)).mono fun e w' h => by
      obtain ⟨A, n, c, he, ho, hb⟩ := h
      rw [htH.out] at he ho
      rw [show (Tg.mk 0 17 true).rightB = true by decide] at he ho
      rw [← hRBl]
      exact ⟨A, n, c, he, ho, hb⟩
  have hRlh := Lib.hid hRl
  clear hsh hcn hto hol hEN hOF hRBl
  generalize ordO (whs FB 0).1 = LO at *
  generalize (whs FB 0).1 = LL at *
  generalize LL.length = LN at *
  go_upto_region 15 with (fail)
  go_wp2_with fail
  refine (hWh.out _ HB1.out).mono ?_
  rintro e w3 ⟨A3, c3, rfl, hbs3, hb3⟩
  have HB3 := Lib.hid (HB1.out.trans (hb3.mono HB1.out.size))
  have HFR3 := Lib.hid (HFR.out.below hb3)
  clear hb3 y0 y1 y2 y3 y4
  go_upto_region 18 with (fail)
  go_wp2_with fail
  refine (hOr.out _ _ _ hbs3).mono ?_
  rintro e w4 ⟨A4, c4, rfl, hbs4, hb4⟩
  have HB4 := Lib.hid (HB3.out.trans (hb4.mono HB3.out.size))
  have HFR4 := Lib.hid (HFR3.out.below hb4)
  clear hb4 hbs3
  go_wp2_with fail
  refine (hJo.out _ _ _ hbs4).mono ?_
  rintro e w5 ⟨A5, n5, c5, rfl, ho5, hb5⟩
  have HB5 := Lib.hid (HB4.out.trans (hb5.mono HB4.out.size))
  have HFR5 := Lib.hid (HFR4.out.below hb5)
  clear hb5 hbs4
  have z4 := HFR5.out.cell 4
  have z4f := HFR5.out.free 4
  simp only [List.getElem?_cons_zero, List.getElem?_cons_succ] at z4
  have hFR6 := HFR5.out.set 4 (.slice A5 n5 c5)
  have hB6 : Below W0.heap.size W0 (w5.setCell ⟨W0.heap.size, 4, none⟩ (.slice A5 n5 c5)) := Only.below ((Only.refl W0.heap.size w5).setCell rfl _) HB5.out (Nat.le_refl _) HB5.out.size
  have ho6 : Ob (w5.setCell ⟨W0.heap.size, 4, none⟩ (.slice A5 n5 c5)) _ 5 (.slice A5 n5 c5) OF := ownsRow_setCell_other ho5 (HFR5.out.notRow ho5 (by decide)) _
  obtain ⟨hbs6, _⟩ := Ob.bs ho6
  have HB6 := Lib.hid hB6
  have HBS6 := Lib.hid hbs6
  have HFR6 := Lib.hid hFR6
  clear hFR6 hB6 ho6 hbs6 ho5
  go_upto_region 19 with (fail)
  generalize w5.setCell ⟨W0.heap.size, 4, none⟩ (.slice A5 n5 c5) = w6 at *
  have y0 := HFR6.out.cell 0
  have y1 := HFR6.out.cell 1
  have y2 := HFR6.out.cell 2
  have y3 := HFR6.out.cell 3
  have y4 := HFR6.out.cell 4
  simp only [List.getElem?_cons_zero, List.getElem?_cons_succ, List.set_cons_succ, List.set_cons_zero] at y0 y1 y2 y3 y4
  clear z4 z4f
  go_wp2_with fail
  refine (hWr.out _ _ _ _ HBS6.out).mono ?_
  rintro e w2 ⟨A2, n2, c2, rfl, ho2, hb2⟩
  have HB2 := Lib.hid (HB6.out.trans (hb2.mono HB6.out.size))
  clear hb2
  have hn2 : n2 ≤ 10000009 := by have := ho2.bs.1.len; have := hRlh.out; omega
  have f0 := (HT.out.below HB2.out).cells.2 0
  have s0 := (HT.out.below HB2.out).cells.1.1
  obtain ⟨P1, P2⟩ := (HT.out.below HB2.out).pop (k := N) (by have := HN.out; simp; omega)
  have hO5 : OnlyF rp w (w2.setCell ⟨T, 0, none⟩ (.slice (some ⟨g, 0, none⟩) N cg)) := (OnlyF.of_below (fp := rp) (HB.out.trans (HB2.out.mono HB.out.size))).trans P2 (Grew.refl _ _)
  have htk : (Gs ++ [F]).take N = Hs ++ [G] := by rw [← HN.out, List.take_left']; exact hG; rfl
  rw [htk] at P1
  have ho5 : Ob (w2.setCell ⟨T, 0, none⟩ (.slice (some ⟨g, 0, none⟩) N cg)) _ 5 (.slice A2 n2 c2) RB := ownsRow_setCell_other ho2 ((HT.out.below HB2.out).blk.notRow ho2 (by decide)) _
  obtain ⟨hbs5, _⟩ := Ob.bs ho5
  have P1h := Lib.hid P1
  have O5h := Lib.hid hO5
  have B5h := Lib.hid hbs5
  clear P1 P2 hO5 ho5 hbs5 ho2 hfr c0 c1 k0 y0 y1 y2 y3 y4 hWr htk
  go_upto_region 23 with (fail)
  generalize w2.setCell ⟨T, 0, none⟩ (.slice (some ⟨g, 0, none⟩) N cg) = W5 at *
  obtain ⟨Ag, ng, cgg, q0, hgb, hng, qf⟩ := P1h.out.lastAt
  rw [hGBl] at hgb
  have hng2 : ng ≤ 10000000 := by have := hgb.len; have := hGl.out; omega
  have hNM : N = Hs.length + 1 := by have := HN.out; rw [hG] at this; simpa using this.symm
  have hTg : T ≠ g := by
    intro e'; subst e'
    exact P1h.out.blk.notRow P1h.out.row (by decide) rfl
  have hgW : g < W5.heap.size := P1h.out.lt g (P1h.out.inA g rfl)
  have HTG := Lib.hid hTg
  have HGW := Lib.hid hgW
  have HQ := Lib.hid q0
  have HQF := Lib.hid qf
  have HGB := Lib.hid hgb
  have HNM := Lib.hid hNM
  clear hTg hgW qf hgb hNM
  have FN := Lib.hid (fun (v9 : Value) (w9 : World) (l : List UInt8) hW ho => RsOk.shut (w := w) (v9 := v9) (w9 := w9) (l := l) P1h.out O5h.out hW ho)
  generalize hM : Hs.length = M at *
  clear hM
  have hMi : (N : Int) = (M : Int) + 1 := by have := HNM.out; omega
  have hM2 : M ≤ 1000 := by have := HNM.out; omega
  rw [hMi]
  have CEL : Hid (∀ W, Below W5.heap.size W5 W → W.cell? ⟨T, 0, none⟩ = some (.slice (some ⟨g, 0, none⟩) N cg)) := fun W hW => (P1h.out.below hW).cells.1.1
  have BBS : Hid (∀ W, Below W5.heap.size W5 W → Bs W Ag ng GB) := fun W hW => HGB.out.below hW
  have WBS : Hid (∀ W, Below W5.heap.size W5 W → Bs W A2 n2 RB) := fun W hW => B5h.out.below hW
  have QB : Hid (∀ W, Below W5.heap.size W5 W → W.cell? ⟨g, M * 5 + 4, none⟩ = some (.slice Ag ng cgg) ∧ W.frozen? ⟨g, M * 5 + 4, none⟩ = false) := fun W hW => ⟨(hW.cell HGW.out).trans HQ.out, by
    have h1 := hW.block g HGW.out
    have h2 := HQF.out
    unfold World.frozen? at h2 ⊢
    rw [h1]; exact h2⟩
  clear q0 f0 s0
  have i1 : (M : Int) < (M : Int) + 1 := by omega
  have hwM : IntKind.i64.wrap (M : Int) = (M : Int) := by rw [IntKind.wrap_i64]; omega
  refine wp_region_held_drew (S := fun W => W.cell? ⟨T, 0, none⟩ = some (.slice (some ⟨g, 0, none⟩) N cg)) (by kernel_rfl) ?hb0 (fun hHeld => ?_)
  case hb0 => (try dsimp only); exact CEL.out _ (Below.drew (Below.refl W5.heap.size W5))
  refine wpAnyH_take (i := 0) (v := ?qv0) rfl (by kernel_rfl) (by kernel_rfl) (by kernel_rfl) (fun _ _ _ h => h) (Or.inl ⟨by kernel_rfl, ?qy0⟩) (by assumption) ?_
  case qy0 => (intro w hSw; (try dsimp only at hSw); go_simp) <;> (try with_reducible rfl)
  try simp only [Act.put, List.setIfInBounds_toArray, List.set_cons_zero, List.set_cons_succ, List.getElem_toArray, List.getElem_cons_succ, List.getElem_cons_zero]
  refine wpAnyH_take (i := 1) (v := ?qv1) rfl (by kernel_rfl) (by kernel_rfl) (by kernel_rfl) (fun _ _ _ h => h) (Or.inl ⟨by kernel_rfl, ?qy1⟩) (by assumption) ?_
  case qy1 => (intro w hSw; (try dsimp only at hSw); go_simp) <;> (try with_reducible rfl)
  try simp only [Act.put, List.setIfInBounds_toArray, List.set_cons_zero, List.set_cons_succ, List.getElem_toArray, List.getElem_cons_succ, List.getElem_cons_zero]
  refine wpAnyH_take (i := 2) (v := ?qv2) rfl (by kernel_rfl) (by kernel_rfl) (by kernel_rfl) (fun _ _ _ h => h) (Or.inl ⟨by kernel_rfl, ?qy2⟩) (by assumption) ?_
  case qy2 => (intro w hSw; (try dsimp only at hSw); go_simp) <;> (try with_reducible rfl)
  try simp only [Act.put, List.setIfInBounds_toArray, List.set_cons_zero, List.set_cons_succ, List.getElem_toArray, List.getElem_cons_succ, List.getElem_cons_zero]
  refine wpAnyH_take (i := 3) (v := ?qv3) rfl (by kernel_rfl) (by kernel_rfl) (by kernel_rfl) (fun _ _ _ h => h) (Or.inl ⟨by kernel_rfl, ?qy3⟩) (by assumption) ?_
  case qy3 => (intro w hSw; (try dsimp only at hSw); go_simp) <;> (try with_reducible rfl)
  try simp only [Act.put, List.setIfInBounds_toArray, List.set_cons_zero, List.set_cons_succ, List.getElem_toArray, List.getElem_cons_succ, List.getElem_cons_zero]
  refine wpAnyH_take (i := 4) (v := ?qv4) rfl (by kernel_rfl) (by kernel_rfl) (by kernel_rfl) (fun _ _ _ h => h) (Or.inl ⟨by kernel_rfl, ?qy4⟩) (by assumption) ?_
  case qy4 => (intro w hSw; (try dsimp only at hSw); go_simp) <;> (try with_reducible rfl)
  try simp only [Act.put, List.setIfInBounds_toArray, List.set_cons_zero, List.set_cons_succ, List.getElem_toArray, List.getElem_cons_succ, List.getElem_cons_zero]
  refine wpAnyH_take (i := 5) (v := ?qv5) rfl (by kernel_rfl) (by kernel_rfl) (by kernel_rfl) (fun _ _ _ h => h) (Or.inl ⟨by kernel_rfl, ?qy5⟩) (by assumption) ?_
  case qy5 => (intro w hSw; (try dsimp only at hSw); go_simp) <;> (try with_reducible rfl)
  try simp only [Act.put, List.setIfInBounds_toArray, List.set_cons_zero, List.set_cons_succ, List.getElem_toArray, List.getElem_cons_succ, List.getElem_cons_zero]
  refine wpAnyH_take (i := 7) (v := ?qv7) rfl (by kernel_rfl) (by kernel_rfl) (by kernel_rfl) (fun _ _ _ h => h) (Or.inl ⟨by kernel_rfl, ?qy7⟩) (by assumption) ?_
  case qy7 => (intro w hSw; (try dsimp only at hSw); go_simp) <;> (try with_reducible rfl)
  try simp only [Act.put, List.setIfInBounds_toArray, List.set_cons_zero, List.set_cons_succ, List.getElem_toArray, List.getElem_cons_succ, List.getElem_cons_zero]
  refine wpAnyH_take (i := 8) (v := ?qv8) rfl (by kernel_rfl) (by kernel_rfl) (by kernel_rfl) (fun _ _ _ h => h) (Or.inl ⟨by kernel_rfl, ?qy8⟩) (by assumption) ?_
  case qy8 => (intro w hSw; (try dsimp only at hSw); go_simp) <;> (try with_reducible rfl)
  try simp only [Act.put, List.setIfInBounds_toArray, List.set_cons_zero, List.set_cons_succ, List.getElem_toArray, List.getElem_cons_succ, List.getElem_cons_zero]
  refine wpAnyH_take (i := 9) (v := ?qv9) rfl (by kernel_rfl) (by kernel_rfl) (by kernel_rfl) (fun _ _ _ h => h) (Or.inl ⟨by kernel_rfl, ?qy9⟩) (by assumption) ?_
  case qy9 => (intro w hSw; (try dsimp only at hSw); go_simp) <;> (try with_reducible rfl)
  try simp only [Act.put, List.setIfInBounds_toArray, List.set_cons_zero, List.set_cons_succ, List.getElem_toArray, List.getElem_cons_succ, List.getElem_cons_zero]
  refine wpAnyH_take (i := 10) (v := ?qv10) rfl (by kernel_rfl) (by kernel_rfl) (by kernel_rfl) (fun _ _ _ h => h) (Or.inl ⟨by kernel_rfl, ?qy10⟩) (by assumption) ?_
  case qy10 => (intro w hSw; (try dsimp only at hSw); go_simp) <;> (try with_reducible rfl)
  try simp only [Act.put, List.setIfInBounds_toArray, List.set_cons_zero, List.set_cons_succ, List.getElem_toArray, List.getElem_cons_succ, List.getElem_cons_zero]
  refine wpAnyH_take (i := 11) (v := ?qv11) rfl (by kernel_rfl) (by kernel_rfl) (by kernel_rfl) (fun _ _ _ h => h) (Or.inl ⟨by kernel_rfl, ?qy11⟩) (by assumption) ?_
  case qy11 => (intro w hSw; (try dsimp only at hSw); go_simp) <;> (try with_reducible rfl)
  try simp only [Act.put, List.setIfInBounds_toArray, List.set_cons_zero, List.set_cons_succ, List.getElem_toArray, List.getElem_cons_succ, List.getElem_cons_zero]
  refine wpAnyH_take (i := 12) (v := ?qv12) rfl (by kernel_rfl) (by kernel_rfl) (by kernel_rfl) (fun _ _ _ h => h) (Or.inl ⟨by kernel_rfl, ?qy12⟩) (by assumption) ?_
  case qy12 => (intro w hSw; (try dsimp only at hSw); go_simp) <;> (try with_reducible rfl)
  try simp only [Act.put, List.setIfInBounds_toArray, List.set_cons_zero, List.set_cons_succ, List.getElem_toArray, List.getElem_cons_succ, List.getElem_cons_zero]
  refine wpAnyH_take (i := 13) (v := ?qv13) rfl (by kernel_rfl) (by kernel_rfl) (by kernel_rfl) (fun _ _ _ h => h) (Or.inl ⟨by kernel_rfl, ?qy13⟩) (by assumption) ?_
  case qy13 => (intro w hSw; (try dsimp only at hSw); go_simp) <;> (try with_reducible rfl)
  try simp only [Act.put, List.setIfInBounds_toArray, List.set_cons_zero, List.set_cons_succ, List.getElem_toArray, List.getElem_cons_succ, List.getElem_cons_zero]
  refine wpAnyH_take (i := 14) (v := ?qv14) rfl (by kernel_rfl) (by kernel_rfl) (by kernel_rfl) (fun _ _ _ h => h) (Or.inl ⟨by kernel_rfl, ?qy14⟩) (by assumption) ?_
  case qy14 => (intro w hSw; (try dsimp only at hSw); go_simp) <;> (try with_reducible rfl)
  try simp only [Act.put, List.setIfInBounds_toArray, List.set_cons_zero, List.set_cons_succ, List.getElem_toArray, List.getElem_cons_succ, List.getElem_cons_zero]
  refine wpAnyH_take (i := 17) (v := ?qv17) rfl (by kernel_rfl) (by kernel_rfl) (by kernel_rfl) (fun _ _ _ h => h) (Or.inl ⟨by kernel_rfl, ?qy17⟩) (by assumption) ?_
  case qy17 => (intro w hSw; (try dsimp only at hSw); go_simp) <;> (try with_reducible rfl)
  try simp only [Act.put, List.setIfInBounds_toArray, List.set_cons_zero, List.set_cons_succ, List.getElem_toArray, List.getElem_cons_succ, List.getElem_cons_zero]
  refine wpAnyH_ready (rs := [6, 15]) (by kernel_rfl) (by simp) ?_
  refine AllReadyH.cons rfl (fun K hK => ?_) (AllReadyH.cons rfl (fun K hK => ?_) (AllReadyH.nil))
  · go_simp
    refine hK.out _ _ ?hs6a (fun hHeld => ?_)
    case hs6a => (try dsimp only); exact CEL.out _ ((below_alloc1 W5 (.cells #[] 5)).drew)
    clear hK K
    try simp only [Act.put, List.setIfInBounds_toArray, List.set_cons_zero, List.set_cons_succ, List.getElem_toArray, List.getElem_cons_succ, List.getElem_cons_zero]
    refine wpAnyH_ready (rs := [15]) (by kernel_rfl) (by simp) ?_
    refine AllReadyH.cons rfl (fun K hK => ?_) AllReadyH.nil
    obtain ⟨s0, _⟩ := QB.out _ ((below_alloc1 W5 (.cells #[] 5)).drew)
    go_simp
    refine hK.out _ _ ?hs15w6a (fun hHeld => ?_)
    case hs15w6a => (try dsimp only); exact CEL.out _ ((below_alloc1 W5 (.cells #[] 5)).drew)
    clear hK K
    try simp only [Act.put, List.setIfInBounds_toArray, List.set_cons_zero, List.set_cons_succ, List.getElem_toArray, List.getElem_cons_succ, List.getElem_cons_zero]
    refine wpAnyH_ready (rs := [16]) (by kernel_rfl) (by simp) ?_
    refine AllReadyH.cons rfl (fun K hK => ?_) AllReadyH.nil
    have hoA : Ob (W5.alloc (.cells #[] 5)).drew W5.heap.size 5 (.slice (some ⟨W5.heap.size, 0, none⟩) 0 0) [] := World.ownsRow_made W5 #[] 0 (Nat.le_refl _) (Nat.zero_le _) rfl
    have hbA := BBS.out (W5.alloc (.cells #[] 5)).drew ((below_alloc1 W5 (.cells #[] 5)).drew)
    refine step_appendB rfl _ _ 41 rfl W5.heap.size 5 i0 (.int .u8 0) Try.underlying41 hi hz0 hz1 hz2 rfl _ [] rfl hoA _ _ _ GB rfl hbA (by simp; omega) (by simp) ?_
    intro v7 w7 hob7 hg7 _ _
    rw [List.nil_append] at hob7
    have z7 : Below W5.heap.size W5 w7 := ((below_alloc1 W5 (.cells #[] 5)).drew).grown ⟨hg7.os, hg7.tape, hg7.output, hg7.size, hg7.block⟩ (by simp) (fun k hk => (hoA.lt k hk).1)
    obtain ⟨A7, c7, rfl, _, _⟩ := hob7.slice
    have hf8 := hGl.out
    refine hK.out _ _ ?hs16w6a (fun hHeld => ?_)
    case hs16w6a => (try dsimp only); exact CEL.out _ z7
    clear hK K
    try simp only [Act.put, List.setIfInBounds_toArray, List.set_cons_zero, List.set_cons_succ, List.getElem_toArray, List.getElem_cons_succ, List.getElem_cons_zero]
    refine wpAnyH_ready (rs := [18]) (by kernel_rfl) (by simp) ?_
    refine AllReadyH.cons rfl (fun K hK => ?_) AllReadyH.nil
    have hbs8 := WBS.out _ z7
    refine step_appendB rfl _ _ 41 rfl W5.heap.size 5 i0 (.int .u8 0) Try.underlying41 hi hz0 hz1 hz2 rfl _ GB rfl hob7 _ _ _ RB rfl hbs8 (by omega) z7.size ?_
    intro v9 w9 hob9 hg9 _ _
    have z9 : Below W5.heap.size W5 w9 := z7.grown ⟨hg9.os, hg9.tape, hg9.output, hg9.size, hg9.block⟩ z7.size (fun k hk => (hob7.lt k hk).1)
    obtain ⟨A9, c9, rfl, _, _⟩ := hob9.slice
    have hX := Lib.hid (FN.out _ _ _ z9 hob9)
    refine hK.out _ _ ?hs18w6a (fun hHeld => ?_)
    case hs18w6a => (try dsimp only); exact CEL.out _ z9
    clear hK K
    try simp only [Act.put, List.setIfInBounds_toArray, List.set_cons_zero, List.set_cons_succ, List.getElem_toArray, List.getElem_cons_succ, List.getElem_cons_zero]
    refine wpAnyH_take (i := 19) (v := ?qv19w6) rfl (by kernel_rfl) (by kernel_rfl) (by kernel_rfl) (fun _ _ _ h => h) (Or.inl ⟨by kernel_rfl, ?qy19w6⟩) (by assumption) ?_
    case qy19w6 => (intro w hSw; (try dsimp only at hSw); go_simp) <;> (try with_reducible rfl)
    try simp only [Act.put, List.setIfInBounds_toArray, List.set_cons_zero, List.set_cons_succ, List.getElem_toArray, List.getElem_cons_succ, List.getElem_cons_zero]
    refine wpAnyH_take (i := 20) (v := ?qv20w6) rfl (by kernel_rfl) (by kernel_rfl) (by kernel_rfl) (fun _ _ _ h => h) (Or.inl ⟨by kernel_rfl, ?qy20w6⟩) (by assumption) ?_
    case qy20w6 => (intro w hSw; (try dsimp only at hSw); go_simp) <;> (try with_reducible rfl)
    try simp only [Act.put, List.setIfInBounds_toArray, List.set_cons_zero, List.set_cons_succ, List.getElem_toArray, List.getElem_cons_succ, List.getElem_cons_zero]
    refine wpAnyH_ready (rs := [21]) (by kernel_rfl) (by simp) ?_
    refine AllReadyH.cons rfl (fun K hK => ?_) AllReadyH.nil
    obtain ⟨s0, s1⟩ := QB.out _ z9
    go_simp
    refine hK.out _ _ ?hs21w6a (fun hHeld => ?_)
    case hs21w6a => (try dsimp only); exact (cell_other (HTG.out) _).trans (CEL.out _ z9)
    clear hK K
    try simp only [Act.put, List.setIfInBounds_toArray, List.set_cons_zero, List.set_cons_succ, List.getElem_toArray, List.getElem_cons_succ, List.getElem_cons_zero]
    refine wpAnyH_done (by kernel_rfl) ?_ _
    go_wp2
    go_end0
    exact ⟨rfl, by have h := hX.out; rw [List.length_append] at h; exact h⟩
  · obtain ⟨s0, _⟩ := QB.out _ (Below.drew (Below.refl W5.heap.size W5))
    go_simp
    refine hK.out _ _ ?hs15a (fun hHeld => ?_)
    case hs15a => (try dsimp only); exact CEL.out _ (Below.drew (Below.refl W5.heap.size W5))
    clear hK K
    try simp only [Act.put, List.setIfInBounds_toArray, List.set_cons_zero, List.set_cons_succ, List.getElem_toArray, List.getElem_cons_succ, List.getElem_cons_zero]
    refine wpAnyH_ready (rs := [6]) (by kernel_rfl) (by simp) ?_
    refine AllReadyH.cons rfl (fun K hK => ?_) AllReadyH.nil
    go_simp
    refine hK.out _ _ ?hs6w15a (fun hHeld => ?_)
    case hs6w15a => (try dsimp only); exact CEL.out _ ((below_alloc1 W5 (.cells #[] 5)).drew)
    clear hK K
    try simp only [Act.put, List.setIfInBounds_toArray, List.set_cons_zero, List.set_cons_succ, List.getElem_toArray, List.getElem_cons_succ, List.getElem_cons_zero]
    refine wpAnyH_ready (rs := [16]) (by kernel_rfl) (by simp) ?_
    refine AllReadyH.cons rfl (fun K hK => ?_) AllReadyH.nil
    have hoA : Ob (W5.alloc (.cells #[] 5)).drew W5.heap.size 5 (.slice (some ⟨W5.heap.size, 0, none⟩) 0 0) [] := World.ownsRow_made W5 #[] 0 (Nat.le_refl _) (Nat.zero_le _) rfl
    have hbA := BBS.out (W5.alloc (.cells #[] 5)).drew ((below_alloc1 W5 (.cells #[] 5)).drew)
    refine step_appendB rfl _ _ 41 rfl W5.heap.size 5 i0 (.int .u8 0) Try.underlying41 hi hz0 hz1 hz2 rfl _ [] rfl hoA _ _ _ GB rfl hbA (by simp; omega) (by simp) ?_
    intro v7 w7 hob7 hg7 _ _
    rw [List.nil_append] at hob7
    have z7 : Below W5.heap.size W5 w7 := ((below_alloc1 W5 (.cells #[] 5)).drew).grown ⟨hg7.os, hg7.tape, hg7.output, hg7.size, hg7.block⟩ (by simp) (fun k hk => (hoA.lt k hk).1)
    obtain ⟨A7, c7, rfl, _, _⟩ := hob7.slice
    have hf8 := hGl.out
    refine hK.out _ _ ?hs16w15a (fun hHeld => ?_)
    case hs16w15a => (try dsimp only); exact CEL.out _ z7
    clear hK K
    try simp only [Act.put, List.setIfInBounds_toArray, List.set_cons_zero, List.set_cons_succ, List.getElem_toArray, List.getElem_cons_succ, List.getElem_cons_zero]
    refine wpAnyH_ready (rs := [18]) (by kernel_rfl) (by simp) ?_
    refine AllReadyH.cons rfl (fun K hK => ?_) AllReadyH.nil
    have hbs8 := WBS.out _ z7
    refine step_appendB rfl _ _ 41 rfl W5.heap.size 5 i0 (.int .u8 0) Try.underlying41 hi hz0 hz1 hz2 rfl _ GB rfl hob7 _ _ _ RB rfl hbs8 (by omega) z7.size ?_
    intro v9 w9 hob9 hg9 _ _
    have z9 : Below W5.heap.size W5 w9 := z7.grown ⟨hg9.os, hg9.tape, hg9.output, hg9.size, hg9.block⟩ z7.size (fun k hk => (hob7.lt k hk).1)
    obtain ⟨A9, c9, rfl, _, _⟩ := hob9.slice
    have hX := Lib.hid (FN.out _ _ _ z9 hob9)
    refine hK.out _ _ ?hs18w15a (fun hHeld => ?_)
    case hs18w15a => (try dsimp only); exact CEL.out _ z9
    clear hK K
    try simp only [Act.put, List.setIfInBounds_toArray, List.set_cons_zero, List.set_cons_succ, List.getElem_toArray, List.getElem_cons_succ, List.getElem_cons_zero]
    refine wpAnyH_take (i := 19) (v := ?qv19w15) rfl (by kernel_rfl) (by kernel_rfl) (by kernel_rfl) (fun _ _ _ h => h) (Or.inl ⟨by kernel_rfl, ?qy19w15⟩) (by assumption) ?_
    case qy19w15 => (intro w hSw; (try dsimp only at hSw); go_simp) <;> (try with_reducible rfl)
    try simp only [Act.put, List.setIfInBounds_toArray, List.set_cons_zero, List.set_cons_succ, List.getElem_toArray, List.getElem_cons_succ, List.getElem_cons_zero]
    refine wpAnyH_take (i := 20) (v := ?qv20w15) rfl (by kernel_rfl) (by kernel_rfl) (by kernel_rfl) (fun _ _ _ h => h) (Or.inl ⟨by kernel_rfl, ?qy20w15⟩) (by assumption) ?_
    case qy20w15 => (intro w hSw; (try dsimp only at hSw); go_simp) <;> (try with_reducible rfl)
    try simp only [Act.put, List.setIfInBounds_toArray, List.set_cons_zero, List.set_cons_succ, List.getElem_toArray, List.getElem_cons_succ, List.getElem_cons_zero]
    refine wpAnyH_ready (rs := [21]) (by kernel_rfl) (by simp) ?_
    refine AllReadyH.cons rfl (fun K hK => ?_) AllReadyH.nil
    obtain ⟨s0, s1⟩ := QB.out _ z9
    go_simp
    refine hK.out _ _ ?hs21w15a (fun hHeld => ?_)
    case hs21w15a => (try dsimp only); exact (cell_other (HTG.out) _).trans (CEL.out _ z9)
    clear hK K
    try simp only [Act.put, List.setIfInBounds_toArray, List.set_cons_zero, List.set_cons_succ, List.getElem_toArray, List.getElem_cons_succ, List.getElem_cons_zero]
    refine wpAnyH_done (by kernel_rfl) ?_ _
    go_wp2
    go_end0
    exact ⟨rfl, by have h := hX.out; rw [List.length_append] at h; exact h⟩

/-! ### Zg -/
/-- A frame as the reference bears it: a set's frame has its tag. -/
def rfF (f : Fr) : Fr := if f.set then ⟨⟨0, 17, true⟩, true, f.b⟩ else f
theorem rfF_b (f : Fr) : (rfF f).b = f.b := by unfold rfF; split <;> rfl
theorem rfF_set (f : Fr) : (rfF f).set = f.set := by
  unfold rfF; split
  · rename_i h; exact h.symm
  · rfl
theorem rfF_tag (f : Fr) (h : f.set = true) : (rfF f).t = ⟨0, 17, true⟩ := by unfold rfF; rw [if_pos h]
theorem rfF_no (f : Fr) (h : f.set = false) : rfF f = f := by unfold rfF; rw [h]; rfl
theorem rfF_bytes (f : Fr) (l : List UInt8) : rfF ⟨f.t, f.set, l⟩ = ⟨(rfF f).t, (rfF f).set, l⟩ := by
  obtain ⟨ft, fs, fb⟩ := f
  cases fs <;> rfl
/-- What a call makes of the project's sheet. -/
def stpP (k : Nat) (ls : List (List UInt8)) (t : Tg) (x : Int) (F : Fr) (Fs : List Fr) (er : Int) : Fr × List Fr × Int :=
  match k with
  | 0 => (putF F er ls, Fs, er)
  | 1 => (opnF F er t false, opnL F Fs er, er)
  | 2 => (opnF F er tg0 true, opnL F Fs er, er)
  | 3 => shutR F Fs er
  | _ => (failF F er x, failL Fs er x, failE er x)
/-- The two sheets agree: while there is no error the frames are the same, behind one their number is. -/
def Agr (F : Fr) (Fs : List Fr) (er : Int) (fs : List Fr) : Prop := fs.length = Fs.length + 1 ∧ (er = 0 → fs = (Fs ++ [F]).map rfF)
/-- All their bytes. -/
def sumB (fs : List Fr) : Nat := (fs.map fun f => f.b.length).sum
theorem sumB_append (a b : List Fr) : sumB (a ++ b) = sumB a + sumB b := by simp [sumB]
theorem sumB_one (f : Fr) : sumB [f] = f.b.length := by simp [sumB]
theorem sumB_fr0 (n : Nat) : sumB (List.replicate n fr0) = 0 := by
  induction n with
  | zero => rfl
  | succ n ih => rw [List.replicate_succ]; show sumB ([fr0] ++ _) = 0; rw [sumB_append, ih]; rfl
theorem elemF_len (f : Fr) : (elemF f).1.length ≤ f.b.length + 9 := by
  unfold elemF
  split
  · split
    · simp
    · refine Nat.le_trans (wrapB_le9 _ _) ?_
      have := whs_total f.b _ 0 (Nat.le_refl _)
      rw [flatten_perm_length (ordO_perm _)]; omega
  · split
    · exact wrapB_le9 _ _
    · simp
theorem dropLast_last {Fs : List Fr} (h : Fs.length ≠ 0) : Fs.dropLast ++ [Fs.getLast?.getD fr0] = Fs := by
  have hne : Fs ≠ [] := fun e => h (by rw [e]; rfl)
  rw [List.getLast?_eq_some_getLast hne]
  exact List.dropLast_concat_getLast hne
/-- The bytes grow by what is put, or by a head. -/
theorem stpP_sum (k : Nat) (ls : List (List UInt8)) (t : Tg) (x : Int) (F : Fr) (Fs : List Fr) (er : Int) :
    sumB ((stpP k ls t x F Fs er).2.1 ++ [(stpP k ls t x F Fs er).1]) ≤ sumB (Fs ++ [F]) + ls.flatten.length + 9 := by
  unfold stpP
  split
  · unfold putF
    split
    · simp only [sumB_append, sumB_one, List.length_append]; omega
    · dsimp only; omega
  · unfold opnF opnL
    split
    · simp only [sumB_append, sumB_one]; simp; omega
    · dsimp only; omega
  · unfold opnF opnL
    split
    · simp only [sumB_append, sumB_one]; simp; omega
    · dsimp only; omega
  · unfold shutR
    split
    · dsimp only; omega
    · split
      · simp [sumB, fr0]
      · rename_i h0
        split
        · dsimp only; rw [sumB_append, sumB_fr0, sumB_one]; show 0 + 0 ≤ _; omega
        · dsimp only
          have h1 := elemF_len F
          have h2 : sumB Fs = sumB Fs.dropLast + (Fs.getLast?.getD fr0).b.length := by
            conv => lhs; rw [← dropLast_last h0]
            rw [sumB_append, sumB_one]
          simp only [sumB_append, sumB_one, List.length_append]; omega
  · unfold failF failL
    split
    · rw [sumB_append, sumB_fr0, sumB_one]; show 0 + 0 ≤ _; omega
    · dsimp only; omega
theorem stpP_count (k : Nat) (ls : List (List UInt8)) (t : Tg) (x : Int) (F : Fr) (Fs : List Fr) (er : Int) : (stpP k ls t x F Fs er).2.1.length ≤ Fs.length + 1 := by
  unfold stpP
  split
  · dsimp only; omega
  · unfold opnL; split <;> simp
  · unfold opnL; split <;> simp
  · unfold shutR
    split
    · dsimp only; omega
    · split
      · simp
      · split <;> simp <;> omega
  · unfold failL; split <;> simp
theorem sumB_mem {fs : List Fr} {f : Fr} (h : f ∈ fs) : f.b.length ≤ sumB fs := by
  obtain ⟨a, b, rfl⟩ := List.append_of_mem h
  rw [sumB_append, show f :: b = [f] ++ b from rfl, sumB_append, sumB_one]; omega
theorem elemF_rf (f : Fr) : elemF (rfF f) = elemF f := by
  unfold elemF
  rw [rfF_set, rfF_b]
  cases hs : f.set with
  | true => rfl
  | false => rw [rfF_no f hs]

/-! ### Zh -/
/-- What Do leaves of both. -/
def DoOk (w : World) (T : Nat) (rp : List Nat) (p : Fr × List Fr × Int) (e : Ending) (w' : World) : Prop := e = .returned (.tuple #[]) ∧ ∃ fs', Agr p.1 p.2.1 p.2.2 fs' ∧ RsOk w T rp fs' p.2.2 w'
theorem DoOk.of {w w' : World} {T : Nat} {rp : List Nat} {fs' : List Fr} {p : Fr × List Fr × Int} {e : Ending} {er : Int} (h : e = .returned (.tuple #[]) ∧ RsOk w T rp fs' er w') (he : p.2.2 = er) (ha : Agr p.1 p.2.1 p.2.2 fs') : DoOk w T rp p e w' := by
  subst he
  exact ⟨h.1, fs', ha, h.2⟩
theorem map_last (Fs : List Fr) (F : Fr) : (Fs ++ [F]).map rfF = Fs.map rfF ++ [rfF F] := by simp
theorem ref8DoDeadP (T : Nat) (rp : List Nat) (fs : List Fr) (F : Fr) (Fs : List Fr) (er : Int) (k : Nat) (A : Option Addr) (n c : Nat) (ls : List (List UInt8)) (t : Tg) (x : Int) (w : World)
    (h : Rs w T rp fs er) (ha : Agr F Fs er fs) (q : er ≠ 0) :
    Calls Try.prog 17 #[.pointer (some ⟨T, 0, none⟩), actv k (.slice A n c) t x] w (DoOk w T rp (stpP k ls t x F Fs er)) := by
  have e1 : stpP k ls t x F Fs er = (F, Fs, er) := by
    unfold stpP putF opnF opnL shutR failF failL failE
    split <;> simp [q]
  rw [e1]
  exact (ref8DoDead T rp fs er k (.slice A n c) t x w h q).mono fun e w' hh => DoOk.of hh rfl ha
theorem agr_no {F : Fr} {Fs : List Fr} {er : Int} {fs : List Fr} (h : er ≠ 0) (hl : fs.length = Fs.length + 1) : Agr F Fs er fs := ⟨hl, fun e => absurd e h⟩
theorem agr_yes {F : Fr} {Fs : List Fr} {er : Int} {fs : List Fr} (h : fs = (Fs ++ [F]).map rfF) : Agr F Fs er fs := ⟨by rw [h]; simp, fun _ => h⟩
theorem ref8DoShutP (T : Nat) (rp : List Nat) (F : Fr) (Fs : List Fr) (A : Option Addr) (n c : Nat) (t : Tg) (x : Int) (w : World)
    (h : Rs w T rp ((Fs ++ [F]).map rfF) 0) (hl : Fs.length ≤ 900) (hB : sumB (Fs ++ [F]) ≤ 90000) :
    Calls Try.prog 17 #[.pointer (some ⟨T, 0, none⟩), actv 3 (.slice A n c) t x] w (DoOk w T rp (shutR F Fs 0)) := by
  rw [map_last] at h
  have hFb : (rfF F).b.length ≤ 90000 := by rw [rfF_b]; exact Nat.le_trans (sumB_mem (by simp)) hB
  by_cases h0 : Fs.length = 0
  · obtain rfl := List.eq_nil_of_length_eq_zero h0
    refine (ref8DoShut0 T rp (rfF F) _ t x w h).mono fun e w' hh => ?_
    rw [show shutR F [] 0 = (fr0, [], 17) from rfl]
    exact DoOk.of hh rfl (agr_no (by decide) rfl)
  · have hgl := dropLast_last h0
    generalize hG : Fs.getLast?.getD fr0 = G at *
    generalize hHs : Fs.dropLast = Hs at *
    have hGm : Fs.map rfF = Hs.map rfF ++ [rfF G] := by rw [← hgl, map_last]
    have hGb : (rfF G).b.length ≤ 90000 := by rw [rfF_b]; exact Nat.le_trans (sumB_mem (by rw [← hgl]; simp)) hB
    have h1 : Fs.map rfF ≠ [] := by rw [hGm]; simp
    have hlm : (Fs.map rfF).length ≤ 1000 := by simp; omega
    have hno : ∀ {er : Int}, er ≠ 0 → (elemF F).2 = er → DoOk w T rp (fr0, List.replicate Fs.length fr0, er) = DoOk w T rp (shutR F Fs 0) := by
      intro er he hx
      unfold shutR
      rw [if_neg (by simp), if_neg h0, if_pos (by rw [hx]; exact he), hx]
    have hyes : ∀ {l : List UInt8}, (elemF F).2 = 0 → (elemF F).1 = l → shutR F Fs 0 = (Fr.mk G.t G.set (G.b ++ l), Hs, (0 : Int)) := by
      intro l hx hy
      unfold shutR
      rw [if_neg (by simp), if_neg h0, if_neg (by simpa using hx), hG, hHs, hy]
    have hfin : ∀ (l : List UInt8), Hs.map rfF ++ [Fr.mk (rfF G).t (rfF G).set ((rfF G).b ++ l)] = (Hs ++ [Fr.mk G.t G.set (G.b ++ l)]).map rfF := by
      intro l
      rw [map_last, rfF_b]
      have := rfF_bytes G (G.b ++ l)
      rw [this]
    have hel : elemF F = elemF (rfF F) := (elemF_rf F).symm
    cases hs : (rfF F).set with
    | false =>
      cases hr : (rfF F).t.rightB with
      | false =>
        have he : (elemF F).2 = 1 := by rw [hel]; unfold elemF; rw [hs, hr]; rfl
        rw [← hno (by decide) he]
        exact (ref8DoShutX T rp _ (rfF F) _ t x w h h1 hlm (by omega) hs hr).mono fun e w' hh => DoOk.of hh rfl (agr_no (show (1 : Int) ≠ 0 by decide) (by simp))
      | true =>
        have he : elemF F = (wrapB (rfF F).t (rfF F).b, 0) := by rw [hel]; unfold elemF; rw [hs, hr]; rfl
        rw [hyes (l := wrapB (rfF F).t (rfF F).b) (by rw [he]) (by rw [he])]
        exact (ref8DoShutY T rp _ (rfF F) _ t x w h h1 hlm (by omega) _ _ hGm (by omega) hs hr).mono fun e w' hh => DoOk.of hh rfl (agr_yes (hfin _))
    | true =>
      have ht : (rfF F).t = ⟨0, 17, true⟩ := rfF_tag F (by rw [← rfF_set]; exact hs)
      by_cases hw : (whs (rfF F).b 0).2 = 0
      · have he : elemF F = (wrapB ⟨0, 17, true⟩ (ordO (whs (rfF F).b 0).1).flatten, 0) := by rw [hel]; unfold elemF; rw [hs, if_pos rfl, if_neg (by simpa using hw)]
        rw [hyes (l := wrapB ⟨0, 17, true⟩ (ordO (whs (rfF F).b 0).1).flatten) (by rw [he]) (by rw [he])]
        exact (ref8DoShutU T rp _ (rfF F) _ t x w h h1 hlm (by omega) _ _ hGm (by omega) hs ht (by omega) hw).mono fun e w' hh => DoOk.of hh rfl (agr_yes (hfin _))
      · have he : (elemF F).2 = (whs (rfF F).b 0).2 := by rw [hel]; unfold elemF; rw [hs, if_pos rfl, if_pos hw]
        rw [← hno hw he]
        exact (ref8DoShutZ T rp _ (rfF F) _ t x w h h1 hlm (by omega) hs hw).mono fun e w' hh => DoOk.of hh rfl (agr_no hw (by simp))
theorem ref8Do (T : Nat) (rp : List Nat) (fs : List Fr) (F : Fr) (Fs : List Fr) (er : Int) (k : Nat) (hk : k < 5) (A : Option Addr) (n c : Nat) (ls : List (List UInt8)) (t : Tg) (x : Int) (w : World)
    (h : Rs w T rp fs er) (ha : Agr F Fs er fs) (hr : Bss w A n ls) (hn : n ≤ 1000) (hls : ls.flatten.length ≤ 10000) (hl : Fs.length ≤ 900) (hB : sumB (Fs ++ [F]) ≤ 90000) :
    Calls Try.prog 17 #[.pointer (some ⟨T, 0, none⟩), actv k (.slice A n c) t x] w (DoOk w T rp (stpP k ls t x F Fs er)) := by
  by_cases q : er = 0
  · subst q
    obtain rfl := ha.2 rfl
    have hFb : (rfF F).b.length ≤ 90000 := by rw [rfF_b]; exact Nat.le_trans (sumB_mem (by simp)) hB
    have hne : (Fs ++ [F]).map rfF ≠ [] := by simp
    have hlen : ((Fs ++ [F]).map rfF).length ≤ 1000 := by simp; omega
    obtain rfl | rfl | rfl | rfl | rfl : k = 0 ∨ k = 1 ∨ k = 2 ∨ k = 3 ∨ k = 4 := by omega
    · rw [map_last] at h
      refine (ref8DoPut T rp (Fs.map rfF) (rfF F) A n c ls t x w h (by simp; omega) hr hn (by omega) (by omega)).mono fun e w' hh => ?_
      refine DoOk.of hh rfl (agr_yes ?_)
      show _ = (Fs ++ [putF F 0 ls]).map rfF
      unfold putF
      rw [if_pos rfl, map_last, rfF_bytes F (F.b ++ ls.flatten), rfF_b F]
    · refine (ref8DoOpen T rp _ (.slice A n c) t x w h hne hlen).mono fun e w' hh => ?_
      refine DoOk.of hh rfl (agr_yes ?_)
      show _ = (opnL F Fs 0 ++ [opnF F 0 t false]).map rfF
      unfold opnL opnF
      rw [if_pos rfl, if_pos rfl, map_last (Fs ++ [F])]; rfl
    · refine (ref8DoOpenSet T rp _ (.slice A n c) t x w h hne hlen).mono fun e w' hh => ?_
      refine DoOk.of hh rfl (agr_yes ?_)
      show _ = (opnL F Fs 0 ++ [opnF F 0 tg0 true]).map rfF
      unfold opnL opnF
      rw [if_pos rfl, if_pos rfl, map_last (Fs ++ [F])]; rfl
    · exact ref8DoShutP T rp F Fs A n c t x w h hl hB
    · refine (ref8DoFail T rp _ (.slice A n c) t x w h hne (by omega)).mono fun e w' hh => ?_
      refine DoOk.of hh (by show failE 0 x = x; rfl) ?_
      show Agr (failF F 0 x) (failL Fs 0 x) (failE 0 x) _
      by_cases hx : x = 0
      · subst hx
        exact agr_yes rfl
      · unfold failF failL failE
        rw [if_pos ⟨rfl, hx⟩, if_pos ⟨rfl, hx⟩, if_pos rfl]
        exact agr_no hx (by simp)
  · exact ref8DoDeadP T rp fs F Fs er k A n c ls t x w h ha q
end Go.Proofs.Ytbhfaakhcnkegaa

/-
  A sheet's calls: Shut.
-/
import Derived.Test.YtbhfaakhcnkegaaWj
namespace Go.Proofs.Ytbhfaakhcnkegaa
open Go.RowKit
set_option linter.unusedVariables false
set_option linter.unusedSimpArgs false
set_option maxRecDepth 4000

theorem split_last {α : Type} {l : List α} {n : Nat} (h : l.length = n + 1) : ∃ us u, l = us ++ [u] ∧ us.length = n := by
  refine ⟨l.dropLast, l.getLast (by intro e; rw [e] at h; simp at h), (List.dropLast_concat_getLast _).symm, by simp [h]⟩

/-- The innermost frame is that which stood around it. -/
theorem Sht.pop {w W1 W2 W : World} {S g cap : Nat} {fp : List Nat} {F G : Fr} {Gs : List Fr} {e : Int} {v u : Value} {us : List Value}
    (h : Sht w S fp F (Gs ++ [G]) e v (.slice (some ⟨g, 0, none⟩) (Gs.length + 1) cap) (us ++ [u])) (hl : us.length = Gs.length)
    (h1 : Only S w W1) (h2 : W1.grownBy W2 (some g)) (h3 : Only S W2 W)
    (hrow : W2.ownsRow 0 83 5 (.slice (some ⟨g, 0, none⟩) Gs.length cap) Gs.length ((frCs (Gs ++ [G]) (us ++ [u])).take (Gs.length * 5)))
    (hW : Blk W S 86 (frC G u ++ [.slice (some ⟨g, 0, none⟩) Gs.length cap, .int .i64 e])) :
    Sht W S fp G Gs e u (.slice (some ⟨g, 0, none⟩) Gs.length cap) us ∧ OnlyF fp w W := by
  have hgS : g ≠ S := by
    have := h.blk.notRow h.row (by decide)
    intro e; subst e; exact this rfl
  have hO : OnlyF fp w W := ((OnlyF.of_only h1 h.inS).trans (.of_grown (fp := fp) h2 fun k hk => .inl (h.inA k (by cases hk; rfl))) (Grew.refl _ _)).trans (.of_only (fp := fp) h3 h.inS) (Grew.refl _ _)
  have hgt : ∃ cur, w.heap[g]? = some (.cells cur 83 (0, 0)) := by
    rcases h.row.2 with ⟨he, _⟩ | ⟨g', cap', cur, he, _, hh, _⟩
    · simp at he
    · simp at he; obtain ⟨rfl, _⟩ := he; exact ⟨cur, hh⟩
  obtain ⟨cur, hgc⟩ := hgt
  have hkeep : ∀ x r, Ob w 0 5 x r → Ob W 0 5 x r := by
    intro x r ho
    have ha : Ob W1 0 5 x r := Ob.grown ho h1 (ho.notBlk h.blk (by decide))
    have hb : Ob W2 0 5 x r := Ob.grown ha h2 (ho.notBlk hgc (by decide))
    exact Ob.grown hb h3 (ho.notBlk h.blk (by decide))
  refine ⟨⟨hW, ?_, ⟨by simp [hl], fun i f hf => ?_⟩, ?_, h.inS, h.inA, fun x hx k hk => h.inV x ?_ k hk, fun k hk => Nat.lt_of_lt_of_le (h.lt k hk) hO.size⟩, hO⟩
  · have he : (frCs (Gs ++ [G]) (us ++ [u])).take (Gs.length * 5) = frCs Gs us := by
      rw [frCs_append hl.symm, List.take_append_of_le_length (by rw [frCs_len hl.symm]; omega), List.take_of_length_le (by rw [frCs_len hl.symm]; omega)]
    rw [he] at hrow
    exact World.ownsRow.kept hrow h3 (.inr (by simp [Value.ownBlock, hgS]))
  · rcases i with _ | i
    · cases hf
      obtain ⟨x, hx, ho⟩ := h.held.2 (Gs.length + 1) G (by simp)
      refine ⟨u, rfl, ?_⟩
      have : x = u := by
        simp at hx
        rw [List.getElem?_append_right (by omega), show Gs.length - us.length = 0 by omega] at hx
        simpa using hx.symm
      rw [← this]; exact hkeep _ _ ho
    · have hf' : Gs[i]? = some f := by simpa using hf
      have hi := (List.getElem?_eq_some_iff.1 hf').1
      obtain ⟨x, hx, ho⟩ := h.held.2 (i + 1) f (by simp; rw [List.getElem?_append_left hi]; exact hf')
      refine ⟨x, ?_, hkeep _ _ ho⟩
      simp at hx ⊢
      rw [List.getElem?_append_left (by omega)] at hx; exact hx
  · have hn := h.nodup
    have hs : (List.filterMap Value.ownBlock (us ++ [u])).Nodup := by
      rw [List.filterMap_cons] at hn
      cases hq : v.ownBlock with
      | none => rw [hq] at hn; exact hn
      | some k => rw [hq] at hn; exact (List.nodup_cons.1 hn).2
    exact ((List.Perm.filterMap Value.ownBlock (List.perm_append_comm : (us ++ [u]).Perm ([u] ++ us))).nodup_iff).1 hs
  · rw [List.mem_cons] at hx ⊢
    rcases hx with rfl | hx
    · right; simp
    · right; simp [hx]

/-- What Shut makes of a sheet. -/
def shutR (F : Fr) (Fs : List Fr) (er : Int) : Fr × List Fr × Int :=
  if er ≠ 0 then (F, Fs, er)
  else if Fs.length = 0 then (fr0, [], 17)
  else if (elemF F).2 ≠ 0 then (fr0, List.replicate Fs.length fr0, (elemF F).2)
  else (⟨(Fs.getLast?.getD fr0).t, (Fs.getLast?.getD fr0).set, (Fs.getLast?.getD fr0).b ++ (elemF F).1⟩, Fs.dropLast, 0)

theorem ShOk.trans {w w1 w2 : World} {S : Nat} {fp fp' : List Nat} {F : Fr} {Fs : List Fr} {e : Int} (hO : OnlyF fp w w1) (hG : Grew w.heap.size fp fp') (h : ShOk w1 S fp' F Fs e w2) : ShOk w S fp F Fs e w2 := by
  obtain ⟨fq, h1, h2, h3⟩ := h
  exact ⟨fq, h1, hO.trans h2 hG, hG.trans h3 hO.size⟩

set_option maxHeartbeats 1600000 in
theorem bdShutNo (S : Nat) (fp : List Nat) (F : Fr) (Fs : List Fr) (er : Int) (w : World) (h : Sh w S fp F Fs er) (hx : er ≠ 0 ∨ Fs.length = 0) :
    Calls Try.prog 15 #[.pointer (some ⟨S, 0, none⟩)] w fun e w' => e = .returned (.tuple #[]) ∧ ShOk w S fp (shutR F Fs er).1 (shutR F Fs er).2.1 (shutR F Fs er).2.2 w' := by
  have HD := Lib.hid (bdDead S fp F Fs er _ h)
  by_cases q : er = 0
  · subst q
    have hl : Fs.length = 0 := by rcases hx with hx | hx; exact absurd rfl hx; exact hx
    have hl2 := List.eq_nil_of_length_eq_zero hl
    subst hl2
    have HR : Hid (shutR F [] 0 = (fr0, [], 17)) := by unfold Hid shutR; simp
    have HDp := Lib.hid (fun (W : World) (hq : Qt w W) => bdDepth S fp F [] 0 W (h.qt hq))
    have HFl := Lib.hid (fun (W : World) (hq : Qt w W) => bdFailYes S fp F [] 17 W (h.qt hq) (by decide))
    clear h hx
    go_enter Try.func15, Try.ntmps15
    go_wp2_with fail
    refine HD.out.mono ?_
    rintro e w1 ⟨rfl, hq⟩
    have HQ := Lib.hid hq
    clear HD hq
    go_wp2_with fail
    refine (HDp.out _ HQ.out).mono ?_
    rintro e w2 ⟨rfl, hq2⟩
    have HQ2 := Lib.hid (HQ.out.trans hq2)
    clear HDp hq2
    go_wp2_with fail
    refine (HFl.out _ HQ2.out).mono ?_
    rintro e w3 ⟨rfl, h3⟩
    have H3 := Lib.hid (ShOk.trans (OnlyF.of_qt HQ2.out) (Grew.refl _ _) h3)
    clear h3 HFl
    go_wp2
    refine bodyPost_ret (results_none rfl _ _ _) rfl ?_
    rw [HR.out]
    exact ⟨rfl, H3.out⟩
  · have HR : Hid (shutR F Fs er = (F, Fs, er)) := by unfold Hid shutR; rw [if_pos q]
    have HS : Hid (∀ W, Qt w W → ShOk w S fp F Fs er W) := fun W hq => ShOk.same h hq.below
    have e1 : (er != 0) = true := by simp; exact q
    clear q hx h
    go_enter Try.func15, Try.ntmps15
    go_wp2_with fail
    refine HD.out.mono ?_
    rintro e w1 ⟨rfl, hq⟩
    have HQ := Lib.hid (HS.out _ hq)
    clear HD HS hq
    go_wp2
    refine bodyPost_ret (results_none rfl _ _ _) rfl ?_
    rw [HR.out]
    exact ⟨rfl, HQ.out⟩

set_option maxHeartbeats 1600000 in
theorem bdShutErr (S : Nat) (fp : List Nat) (F : Fr) (Fs : List Fr) (w : World) (h : Sh w S fp F Fs 0) (hn : Fs.length ≠ 0) (hE : (elemF F).2 ≠ 0) (hlen : F.b.length ≤ 16777216) :
    Calls Try.prog 15 #[.pointer (some ⟨S, 0, none⟩)] w fun e w' => e = .returned (.tuple #[]) ∧ ShOk w S fp fr0 (List.replicate Fs.length fr0) (elemF F).2 w' := by
  have HD := Lib.hid (bdDead S fp F Fs 0 _ h)
  have HDp := Lib.hid (fun (W : World) (hq : Qt w W) => bdDepth S fp F Fs 0 W (h.qt hq))
  have HEl : Hid (∀ (W : World) (hq : Qt w W), Calls Try.prog 48 #[.pointer (some ⟨S, 0, none⟩)] W (ElemOk W (elemF F))) := by
    intro W hq
    obtain ⟨v, va, vs, hT⟩ := h.qt hq
    exact bdElement S fp F Fs 0 v va vs W hT hlen
  have HFl := Lib.hid (fun (W : World) (hb : Below w.heap.size w W) => bdFailYes S fp F Fs (elemF F).2 W (h.below hb) hE)
  have e1 : ((elemF F).2 != 0) = true := by simp; exact hE
  have e0 : ((Fs.length : Int) == 0) = false := beq_eq_false_iff_ne.2 (by omega)
  clear h hE hlen hn
  have HX : Hid (∀ W e w', ElemOk W (elemF F) e w' → ∃ A n c, e = .returned (.tuple #[.slice A n c, .int .i64 (elemF F).2]) ∧ Below W.heap.size W w') := fun W e w' ⟨A, n, c, he, _, hb⟩ => ⟨A, n, c, he, hb⟩
  generalize (elemF F).2 = E at *
  generalize hN : Fs.length = N at *
  go_enter Try.func15, Try.ntmps15
  go_wp2_with fail
  refine HD.out.mono ?_
  rintro e w1 ⟨rfl, hq⟩
  have HQ := Lib.hid hq
  clear HD hq
  go_wp2_with fail
  refine (HDp.out _ HQ.out).mono ?_
  rintro e w2 ⟨rfl, hq2⟩
  have HQ2 := Lib.hid (HQ.out.trans hq2)
  clear HDp hq2 HQ
  go_wp2_with fail
  refine (HEl.out _ HQ2.out).mono ?_
  intro e w3 hh
  obtain ⟨A, n, c, rfl, hb3⟩ := HX.out _ _ _ hh
  have HB := Lib.hid (HQ2.out.below.trans (hb3.mono (HQ2.out.below (B := 0)).size))
  clear hh HEl hb3 HX
  go_wp2_with fail
  refine (HFl.out _ HB.out).mono ?_
  rintro e w4 ⟨rfl, h4⟩
  have H4 := Lib.hid (ShOk.trans (OnlyF.of_below HB.out) (Grew.refl _ _) h4)
  clear h4 HFl
  go_wp2
  refine bodyPost_ret (results_none rfl _ _ _) rfl ?_
  exact ⟨rfl, H4.out⟩

theorem Ob.apart {w W : World} {B : Nat} {fp : List Nat} {te : TypeId} {u : Value} {r : List UInt8} (h : Ob w B te u r) (hO : OnlyF fp w W) (hf : ∀ k ∈ fp, k < B) : Ob W B te u r := by
  refine ⟨h.1, ?_⟩
  rcases h.2 with h2 | ⟨g, cap, cur, rfl, h0, hh, r⟩
  · exact .inl h2
  · exact .inr ⟨g, cap, cur, rfl, h0, by rw [hO.block g (lt_of_block hh) (fun hm => by have := hf g hm; omega)]; exact hh, r⟩
theorem Bss.apart1 {Wx W2 : World} {B : Nat} {fp : List Nat} {A : Option Addr} {n c : Nat} {eb : List UInt8} {t te : TypeId} (hO : OnlyF fp (Wx.alloc (.cells #[.slice A n c] t)) W2) (hf : ∀ k ∈ fp, k < Wx.heap.size) (hob : Ob W2 B te (.slice A n c) eb) : Bss W2 (some ⟨Wx.heap.size, 0, none⟩) 1 [eb] := by
  have hb := heap_alloc_new Wx (.cells #[.slice A n c] t)
  have hb2 : W2.heap[Wx.heap.size]? = some (.cells #[.slice A n c] t) := by rw [hO.block _ (lt_of_block hb) (fun hm => by have := hf _ hm; omega)]; exact hb
  obtain ⟨hbs, hle⟩ := hob.bs
  refine ⟨rfl, fun i l hl => ?_⟩
  match i, hl with
  | 0, hl => cases hl; exact ⟨_, _, A, n, c, rfl, by rw [blk_cell hb2]; rfl, hbs, hle⟩

set_option maxHeartbeats 3200000 in
theorem bdShutYes (S : Nat) (fp : List Nat) (F G : Fr) (Gs : List Fr) (w : World) (h : Sh w S fp F (Gs ++ [G]) 0) (hE : (elemF F).2 = 0) (hlen : F.b.length ≤ 16777216) (hlen2 : G.b.length + (elemF F).1.length ≤ 1099511627776) (hn : Gs.length ≤ 1000000) :
    Calls Try.prog 15 #[.pointer (some ⟨S, 0, none⟩)] w fun e w' => e = .returned (.tuple #[]) ∧ ShOk w S fp ⟨G.t, G.set, G.b ++ (elemF F).1⟩ Gs 0 w' := by
  have HD := Lib.hid (bdDead S fp F (Gs ++ [G]) 0 _ h)
  have HDp := Lib.hid (fun (W : World) (hq : Qt w W) => bdDepth S fp F (Gs ++ [G]) 0 W (h.qt hq))
  have HEl : Hid (∀ (W : World) (hq : Qt w W), Calls Try.prog 48 #[.pointer (some ⟨S, 0, none⟩)] W (ElemOk W (elemF F))) := by
    intro W hq
    obtain ⟨v, va, vs, hT⟩ := h.qt hq
    exact bdElement S fp F (Gs ++ [G]) 0 v va vs W hT hlen
  have hfp : ∀ k ∈ fp, k < w.heap.size := by obtain ⟨v, va, vs, hT⟩ := h; exact hT.lt
  have e0 : (((Gs ++ [G]).length : Int) == 0) = false := by simp; omega
  have HX : Hid (∀ W e w', ElemOk W (elemF F) e w' → ∃ A n c, e = .returned (.tuple #[.slice A n c, .int .i64 0]) ∧ Ob w' W.heap.size 5 (.slice A n c) (elemF F).1 ∧ Below W.heap.size W w') := fun W e w' ⟨A, n, c, he, ho, hb⟩ => ⟨A, n, c, by rw [he, hE], ho, hb⟩
  have HFP := Lib.hid hfp
  have H := Lib.hid h
  clear h hE hlen hfp
  generalize (elemF F).1 = eb at *
  have hNL : (Gs ++ [G]).length = Gs.length + 1 := by simp
  go_enter Try.func15, Try.ntmps15
  rw [hNL] at e0 HDp
  go_wp2_with fail
  refine HD.out.mono ?_
  rintro e w1 ⟨rfl, hq⟩
  have HQ := Lib.hid hq
  clear HD hq
  go_wp2_with fail
  refine (HDp.out _ HQ.out).mono ?_
  rintro e w2 ⟨rfl, hq2⟩
  have HQ2 := Lib.hid (HQ.out.trans hq2)
  clear HDp hq2 HQ
  go_wp2_with fail
  refine (HEl.out _ HQ2.out).mono ?_
  intro e w3 hh
  obtain ⟨A, n, c, rfl, hob, hb3⟩ := HX.out _ _ _ hh
  have HB := Lib.hid (HQ2.out.below.trans (hb3.mono (HQ2.out.below (B := 0)).size))
  have hs0 : w.heap.size ≤ w2.heap.size := (HQ2.out.below (B := 0)).size
  have HOB := Lib.hid (hob.mono hs0)
  obtain ⟨hbs, hnc⟩ := hob.bs
  clear hh HEl hb3 HX hob hbs
  obtain ⟨v, va, vs, hT⟩ := H.out.below HB.out
  obtain ⟨us, u, rfl, hul⟩ := split_last (l := vs) (n := Gs.length) (by have := hT.held.1; simp at this; omega)
  obtain ⟨Av, cv, rfl, _, _⟩ := hT.heldOb.slice
  obtain ⟨Au, nu, cu, rfl⟩ : ∃ Au nu cu, u = .slice Au nu cu := by
    obtain ⟨x, hx, ho⟩ := hT.held.2 (Gs.length + 1) G (by simp)
    simp at hx
    rw [List.getElem?_append_right (by omega), show Gs.length - us.length = 0 by omega] at hx
    simp at hx
    subst hx
    obtain ⟨A, c, rfl, _⟩ := ho.slice
    exact ⟨_, _, _, rfl⟩
  obtain ⟨g, cap, rfl, hcap⟩ : ∃ g cap, va = .slice (some ⟨g, 0, none⟩) (Gs.length + 1) cap ∧ Gs.length + 1 ≤ cap := by
    rcases hT.row.2 with ⟨_, h0⟩ | ⟨g, cap, cur, hva, _, _, hle, _⟩
    · simp at h0
    · exact ⟨g, cap, by rw [hva]; simp, by simpa using hle⟩
  have hrow := hT.row
  rw [hNL] at hrow
  have hfr : ∀ i, i < 5 → w3.cell? ⟨g, Gs.length * 5 + i, none⟩ = (frC G (.slice Au nu cu))[i]? := by
    intro i hi
    rw [hrow.cellAt (Gs.length * 5 + i) (by omega), frCs_append hul.symm, List.getElem?_append_right (by rw [frCs_len hul.symm]; omega), frCs_len hul.symm, show Gs.length * 5 + i - Gs.length * 5 = i by omega]
    simp [frCs]
  have x0 : w3.cell? ⟨g, Gs.length * 5, none⟩ = some (.int .i64 G.t.cls) := hfr 0 (by omega)
  have x1 : w3.cell? ⟨g, Gs.length * 5 + 1, none⟩ = some (.int .i64 G.t.num) := hfr 1 (by omega)
  have x2 : w3.cell? ⟨g, Gs.length * 5 + 2, none⟩ = some (.bool G.t.made) := hfr 2 (by omega)
  have x3 : w3.cell? ⟨g, Gs.length * 5 + 3, none⟩ = some (.bool G.set) := hfr 3 (by omega)
  have x4 : w3.cell? ⟨g, Gs.length * 5 + 4, none⟩ = some (.slice Au nu cu) := hfr 4 (by omega)
  obtain ⟨⟨c0, c1, c2, c3, c4, c5, _⟩, hf⟩ := hT.cells
  have f0 := hf 0
  have f1 := hf 1
  have f2 := hf 2
  have f3 := hf 3
  have f4 := hf 4
  have hbW := ((((hT.blk.set 0 (.int .i64 G.t.cls)).set 1 (.int .i64 G.t.num)).set 2 (.bool G.t.made)).set 3 (.bool G.set)).set 4 (.slice Au nu cu)
  have hOW := ((((((Only.refl S w3).setCell (p := ⟨S, 0, none⟩) rfl (.int .i64 G.t.cls)).setCell (p := ⟨S, 1, none⟩) rfl (.int .i64 G.t.num)).setCell (p := ⟨S, 2, none⟩) rfl (.bool G.t.made)).setCell (p := ⟨S, 3, none⟩) rfl (.bool G.set)).setCell (p := ⟨S, 4, none⟩) rfl (.slice Au nu cu))
  have HBW := Lib.hid hbW
  have HOW := Lib.hid hOW
  have HT := Lib.hid hT
  have HROW := Lib.hid hrow
  have HUL := Lib.hid hul
  have HNL := Lib.hid hNL
  have HL2 := Lib.hid hlen2
  have i1 : (0 : Int) ≤ (Gs.length : Int) := by omega
  have i2 : (Gs.length : Int) < (Gs.length : Int) + 1 := by omega
  clear hbW hOW hT hrow hf hfr hul hNL hlen2 hs0 hcap
  go_wp2_with fail
  clear x0 x1 x2 x3 x4 c0 c1 c2 c3 c4 c5 f0 f1 f2 f3 f4
  generalize (((((w3.setCell { block := S, off := 0 } (Value.int .i64 G.t.cls)).setCell { block := S, off := 1 } (.int .i64 G.t.num)).setCell { block := S, off := 2 } (.bool G.t.made)).setCell { block := S, off := 3 } (.bool G.set)).setCell { block := S, off := 4 } (Value.slice Au nu cu)) = W1 at *
  have hgS : (Value.slice (some ⟨g, 0, none⟩) (Gs.length + 1) cap).ownBlock ≠ some S := HT.out.blk.notRow HT.out.row (by decide)
  have hrow1 := World.ownsRow.kept HROW.out HOW.out (.inr hgS)
  refine (bdDelete g Gs.length cap _ W1 hrow1).mono ?_
  rintro e w5 ⟨rfl, hrow5, hg5⟩
  have hbl5 : Blk w5 S 86 _ := (hg5.block S HBW.out.lt (fun e => hgS e.symm)).trans HBW.out
  have c5 := hbl5.cell 5
  have f5 := hbl5.free 5
  simp [frC] at c5
  have hbl6 := hbl5.set 5 (.slice (some ⟨g, 0, none⟩) Gs.length cap)
  have hO6 := (Only.refl S w5).setCell (p := ⟨S, 5, none⟩) rfl (.slice (some ⟨g, 0, none⟩) Gs.length cap)
  have hP := HT.out.pop HUL.out HOW.out hg5 hO6 hrow5 (by simpa [frC] using hbl6)
  have HP := Lib.hid hP
  clear hbl5 hbl6 hO6 hP hrow5 hg5 hrow1 HBW HOW HROW
  generalize hW6 : w5.setCell ⟨S, 5, none⟩ (.slice (some ⟨g, 0, none⟩) Gs.length cap) = W6 at HP
  have HW6 := Lib.hid hW6
  have hfp6 : ∀ k ∈ fp, k < W6.heap.size := HP.out.1.lt
  have hObA : OnlyF fp w3 (W6.alloc (.cells #[.slice A n c] 41)) := HP.out.2.alloc _
  have HHold := Lib.hid (bdHold S fp G Gs 0 (some ⟨W6.heap.size, 0, none⟩) 1 1 [eb] (W6.alloc (.cells #[.slice A n c] 41)) (Sh.below ⟨_, _, _, HP.out.1⟩ (below_alloc1 _ _))
    (fun W2 hW2 => Bss.apart1 hW2 hfp6 ((HOB.out.apart hObA HFP.out).apart hW2 HFP.out)) (by omega) (by simpa using HL2.out))
  have HOA := Lib.hid hObA
  have hs6 : W6.heap.size = w5.heap.size := by rw [← hW6]; simp [World.setCell]
  rw [hs6] at HHold
  clear hfp6 hObA hW6 hs6
  go_wp2_with fail
  rw [HW6.out]
  refine HHold.out.mono ?_
  rintro e w7 ⟨rfl, h7⟩
  rw [show [eb].flatten = eb by simp] at h7
  have H7 := Lib.hid (ShOk.trans ((OnlyF.of_below HB.out).trans HOA.out (Grew.refl _ _)) (Grew.refl _ _) h7)
  clear h7 HHold HW6
  go_wp2
  go_end0
  exact ⟨rfl, H7.out⟩

theorem bdShut (S : Nat) (fp : List Nat) (F : Fr) (Fs : List Fr) (er : Int) (w : World) (h : Sh w S fp F Fs er) (hlen : F.b.length ≤ 16777216) (hlen2 : ∀ G, Fs.getLast? = some G → G.b.length + (elemF F).1.length ≤ 1099511627776) (hn : Fs.length ≤ 1000000) :
    Calls Try.prog 15 #[.pointer (some ⟨S, 0, none⟩)] w fun e w' => e = .returned (.tuple #[]) ∧ ShOk w S fp (shutR F Fs er).1 (shutR F Fs er).2.1 (shutR F Fs er).2.2 w' := by
  by_cases hx : er ≠ 0 ∨ Fs.length = 0
  · exact bdShutNo S fp F Fs er w h hx
  · have he : er = 0 := by omega
    have hl : Fs.length ≠ 0 := by omega
    subst he
    by_cases hE : (elemF F).2 = 0
    · obtain ⟨Gs, G, rfl, hgl⟩ := split_last (l := Fs) (n := Fs.length - 1) (by omega)
      have hr : shutR F (Gs ++ [G]) 0 = (⟨G.t, G.set, G.b ++ (elemF F).1⟩, Gs, 0) := by
        unfold shutR
        rw [if_neg (by simp), if_neg hl, if_neg (by simp [hE])]
        simp
      rw [hr]
      exact bdShutYes S fp F G Gs w h hE hlen (hlen2 G (by simp)) (by simp at hn; omega)
    · have hr : shutR F Fs 0 = (fr0, List.replicate Fs.length fr0, (elemF F).2) := by
        unfold shutR
        rw [if_neg (by simp), if_neg hl, if_pos hE]
      rw [hr]
      exact bdShutErr S fp F Fs w h hl hE hlen

set_option maxHeartbeats 800000 in
theorem bdShut0 (w : World) :
    Calls Try.prog 15 #[.pointer none] w fun e w' => e = .returned (.tuple #[]) ∧ Qt w w' := by
  go_enter Try.func15, Try.ntmps15
  go_wp2_with fail
  refine (bdDead0 w).mono ?_
  rintro e w1 ⟨rfl, hq⟩
  have HQ := Lib.hid hq
  clear hq
  go_wp2
  refine bodyPost_ret (results_none rfl _ _ _) rfl ?_
  exact ⟨rfl, HQ.out⟩

end Go.Proofs.Ytbhfaakhcnkegaa

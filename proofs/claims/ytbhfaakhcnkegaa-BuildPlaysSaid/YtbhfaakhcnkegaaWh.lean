/-
  A sheet's calls: enter, Open, OpenSet.
-/
import Derived.Test.YtbhfaakhcnkegaaWg
namespace Go.Proofs.Ytbhfaakhcnkegaa
open Go.RowKit
set_option linter.unusedVariables false
set_option linter.unusedSimpArgs false
set_option maxRecDepth 4000

theorem Sht.heldOb {w : World} {S : Nat} {fp : List Nat} {F : Fr} {Fs : List Fr} {e : Int} {v va : Value} {vs : List Value} (h : Sht w S fp F Fs e v va vs) : Ob w 0 5 v F.b := by
  obtain ⟨u, hu, ho⟩ := h.held.2 0 _ rfl
  simp at hu; subst hu; exact ho

/-- One more frame around. -/
theorem Sht.push {w w1 w2 W : World} {S : Nat} {fp : List Nat} {F : Fr} {Fs : List Fr} {e : Int} {v va va' : Value} {vs : List Value} {t : Tg} {b : Bool} (h : Sht w S fp F Fs e v va vs) (hb : Below w.heap.size w w2)
    (hrow : w1.ownsRow 0 83 5 va' (Fs.length + 1) (frCs Fs vs ++ frC F v)) (hg : w2.grownBy w1 va.ownBlock) (hv : va'.ownBlock = va.ownBlock ∨ va'.ownBlock = some w2.heap.size)
    (hW : Blk W S 86 (frC ⟨t, b, []⟩ (.slice none 0 0) ++ [va', .int .i64 e])) (hOn : Only S w1 W) (hsz : W.heap.size = w1.heap.size) :
    Sht W S (fp ++ va'.ownBlock.toList) ⟨t, b, []⟩ (Fs ++ [F]) e (.slice none 0 0) va' (vs ++ [v]) ∧ OnlyF fp w W ∧ Grew w.heap.size fp (fp ++ va'.ownBlock.toList) := by
  have h2 := h.below hb
  have hSv : va.ownBlock ≠ some S := h2.blk.notRow h2.row (by decide)
  have hblk1 : Blk w1 S 86 (frC F v ++ [va, .int .i64 e]) := (hg.block S h2.blk.lt (fun e => hSv e.symm)).trans h2.blk
  have hkeep : ∀ u r, Ob w2 0 5 u r → Ob W 0 5 u r := by
    intro u r ho
    have ho1 := Ob.grown ho hg (ho.notRow h2.row (by decide))
    refine Ob.grown ho1 hOn ?_
    cases hq : u.ownBlock with
    | none => exact .inl rfl
    | some k => right; rw [← hq]; exact hblk1.notRow ho1 (by decide)
  have hlen : Fs.length = vs.length := by have := h.held.1; simpa using this
  have hO2 : OnlyF fp w w1 := (OnlyF.of_below hb).trans (.of_grown (fp := fp) hg fun k hk => .inl (h.inA k hk)) (Grew.refl _ _)
  have hO3 : OnlyF fp w W := hO2.trans (.of_only (fp := fp) hOn h.inS) (Grew.refl _ _)
  have hgr : Grew w.heap.size fp (fp ++ va'.ownBlock.toList) := by
    intro k hk
    rcases List.mem_append.1 hk with h1 | h1
    · exact .inl h1
    · simp at h1
      rcases hv with h3 | h3
      · exact .inl (h.inA k (by rw [← h3, h1]))
      · rw [h1] at h3; cases h3; exact .inr hb.size
  refine ⟨⟨hW, ?_, ⟨by simp [hlen], fun i f hf => ?_⟩, ?_, List.mem_append_left _ h.inS, ?_, ?_, ?_⟩, hO3, hgr⟩
  · rw [frCs_append hlen, List.length_append]
    refine World.ownsRow.kept (by simpa [frCs] using hrow) hOn ?_
    cases hq : va'.ownBlock with
    | none => exact .inl rfl
    | some k => right; rw [← hq]; exact hblk1.notRow hrow (by decide)
  · rcases i with _ | i
    · cases hf; exact ⟨_, rfl, Ob.nil _ _ _⟩
    · have hf' : (Fs ++ [F])[i]? = some f := by simpa using hf
      by_cases hi : i < Fs.length
      · rw [List.getElem?_append_left hi] at hf'
        obtain ⟨u, hu, ho⟩ := h2.held.2 (i + 1) f (by simpa using hf')
        refine ⟨u, ?_, hkeep _ _ ho⟩
        simp at hu ⊢
        rw [List.getElem?_append_left (by omega)]; exact hu
      · rw [List.getElem?_append_right (by omega)] at hf'
        have h3 := (List.getElem?_eq_some_iff.1 hf').1
        simp at h3
        have e0 : i - Fs.length = 0 := by omega
        rw [e0] at hf'; simp at hf'; subst hf'
        refine ⟨v, ?_, hkeep _ _ h2.heldOb⟩
        simp
        rw [List.getElem?_append_right (by omega), show i - vs.length = 0 by omega]; rfl
  · have hn := h.nodup
    have hp : ((Value.slice none 0 0 :: (vs ++ [v])).filterMap Value.ownBlock).Perm ((v :: vs).filterMap Value.ownBlock) := by
      have : ((Value.slice none 0 0 :: (vs ++ [v])).filterMap Value.ownBlock) = (vs ++ [v]).filterMap Value.ownBlock := rfl
      rw [this]
      exact List.Perm.filterMap _ (List.perm_append_comm : (vs ++ [v]).Perm ([v] ++ vs))
    exact hp.nodup_iff.2 hn
  · intro k hk; exact List.mem_append_right _ (by rw [hk]; simp)
  · intro u hu k hk
    rw [List.mem_cons] at hu
    rcases hu with rfl | hu
    · cases hk
    · refine List.mem_append_left _ (h.inV u ?_ k hk)
      rcases List.mem_append.1 hu with h1 | h1
      · exact List.mem_cons_of_mem _ h1
      · simp at h1; subst h1; exact List.mem_cons_self
  · intro k hk
    rw [hsz]
    rcases List.mem_append.1 hk with h1 | h1
    · exact Nat.lt_of_lt_of_le (h.lt k h1) (Nat.le_trans hb.size hg.size)
    · exact (hrow.lt k (by simpa using h1)).2

theorem news_new (w : World) (l : List Value) (e : TypeId) : ∀ j u, l[j]? = some u → (w.alloc (.cells l.toArray e)).cell? ((⟨w.heap.size, 0, none⟩ : Addr).add j) = some u := by
  intro j u hu
  rw [Addr.add_none, Nat.zero_add, blk_cell (heap_alloc_new w _)]
  simpa using hu
theorem row_form {w : World} {B k size : Nat} {te : TypeId} {v : Value} {xs : List Value} (h : w.ownsRow B te size v k xs) : ∃ A c, v = .slice A k c ∧ k ≤ c := by
  rcases h.2 with ⟨rfl, h0⟩ | ⟨g, cap, cur, rfl, _, _, hle, _⟩
  · exact ⟨none, 0, by rw [h0], by omega⟩
  · exact ⟨_, cap, rfl, hle⟩
theorem Sht.blkA {w w1 w2 : World} {S : Nat} {fp : List Nat} {F : Fr} {Fs : List Fr} {e : Int} {v va : Value} {vs : List Value} (h : Sht w S fp F Fs e v va vs) (hb : Below w.heap.size w w2) (hg : w2.grownBy w1 va.ownBlock) : Blk w1 S 86 (frC F v ++ [va, .int .i64 e]) := by
  have h2 := h.below hb
  have hSv : va.ownBlock ≠ some S := h2.blk.notRow h2.row (by decide)
  exact (hg.block S h2.blk.lt (fun e => hSv e.symm)).trans h2.blk

set_option maxHeartbeats 3200000 in
theorem bdEnter (S : Nat) (fp : List Nat) (F : Fr) (Fs : List Fr) (t : Tg) (b : Bool) (w : World) (h : Sh w S fp F Fs 0) (hn : Fs.length ≤ 1000000) :
    Calls Try.prog 47 #[.pointer (some ⟨S, 0, none⟩), .agg #[.int .i64 t.cls, .int .i64 t.num, .bool t.made, .bool b, .slice none 0 0]] w fun e w' => e = .returned (.tuple #[]) ∧ ShOk w S fp ⟨t, b, []⟩ (Fs ++ [F]) 0 w' := by
  obtain ⟨i1, hi1, hz0, hz1, hz2⟩ := info_parts fr_info
  have b0 := below_alloc1 w (.cells #[.int .i64 t.cls, .int .i64 t.num, .bool t.made, .bool b, .slice none 0 0] 83)
  have hlt : S < w.heap.size := by obtain ⟨v, va, vs, hT⟩ := h; exact hT.lt S hT.inS
  have hfp : ∀ k ∈ fp, k < w.heap.size := by obtain ⟨v, va, vs, hT⟩ := h; exact hT.lt
  have HFP := Lib.hid hfp
  have h0 := h.below b0
  have HD := Lib.hid (bdDead S fp F Fs 0 _ h0)
  go_enter Try.func47, Try.ntmps47
  go_wp2_with fail
  refine HD.out.mono ?_
  rintro e w1 ⟨rfl, hq⟩
  clear HD
  have e1 : ((0 : Int) != 0) = false := rfl
  obtain ⟨v, va, vs, hT⟩ := h0.qt hq
  have hbox := heap_alloc_new w (.cells #[.int .i64 t.cls, .int .i64 t.num, .bool t.made, .bool b, .slice none 0 0] 83)
  have hb1 : Below w.heap.size w w1 := b0.trans (hq.below (B := w.heap.size))
  have HB : Hid (Blk w1 w.heap.size 83 [.int .i64 t.cls, .int .i64 t.num, .bool t.made, .bool b, .slice none 0 0]) := (hq.below.block _ (lt_of_block hbox)).trans hbox
  obtain ⟨⟨c0, c1, c2, c3, c4, c5, c6⟩, hf⟩ := hT.cells
  have f5 := hf 5
  have HT := Lib.hid hT
  have HF := Lib.hid hf
  obtain ⟨A, c, rfl, hAc⟩ := hT.vaForm
  obtain ⟨Av, cv, rfl, _, _⟩ := hT.heldOb.slice
  generalize hLB : F.b.length = LB at *
  clear hLB
  clear hT hf h0 h b0 hbox hq c6
  go_wp2_with fail
  have a5 : (w1.drew.alloc (.cells #[.int .i64 F.t.cls, .int .i64 F.t.num, .bool F.t.made, .bool F.set, .slice Av LB cv] 83)).cell? ⟨S, 5, none⟩ = some (.slice A Fs.length c) := (HT.out.below (w' := w1.drew.alloc (.cells #[.int .i64 F.t.cls, .int .i64 F.t.num, .bool F.t.made, .bool F.set, .slice Av LB cv] 83)) ((Below.refl _ _).drew.alloc (Nat.le_refl _) _)).cells.1.2.2.2.2.2.1
  have a5' : (w1.alloc (.cells #[.int .i64 F.t.cls, .int .i64 F.t.num, .bool F.t.made, .bool F.set, .slice Av LB cv] 83)).cell? ⟨S, 5, none⟩ = some (.slice A Fs.length c) := (HT.out.below (w' := w1.alloc (.cells #[.int .i64 F.t.cls, .int .i64 F.t.num, .bool F.t.made, .bool F.set, .slice Av LB cv] 83)) ((Below.refl _ _).alloc (Nat.le_refl _) _)).cells.1.2.2.2.2.2.1
  go_region_law ((refine step_appendF (by rfl) _ _ 84 (by rfl) 0 83 i1 (.agg #[.int .i64 0, .int .i64 0, .bool false, .bool false, .slice none 0 0]) 5 56 Try.underlying84 hi1 hz0 hz1 hz2 (by rfl) (by omega) _ Fs.length (frCs Fs vs) (by rfl) (HT.out.below (by first | exact (Below.refl _ _).drew.alloc (Nat.le_refl _) _ | exact ((Below.refl _ _).alloc (Nat.le_refl _) _).drew | exact (Below.refl _ _).alloc (Nat.le_refl _) _)).row _ 1 _ (frC F (.slice Av LB cv)) (by rfl) (by rfl) (news_new _ _ _) (by intro u hu; simp [frC] at hu; rcases hu with rfl | rfl | rfl | rfl | rfl <;> rfl) (by unfold maxLen; omega) (by omega) (Nat.zero_le _) ?_); intro v9 w2 hrow2 hg2 hv2; obtain ⟨A2, c2', rfl, hle2⟩ := row_form hrow2; have hblk2 := HT.out.blkA (by first | exact (Below.refl _ _).drew.alloc (Nat.le_refl _) _ | exact ((Below.refl _ _).alloc (Nat.le_refl _) _).drew | exact (Below.refl _ _).alloc (Nat.le_refl _) _) hg2; have c52 := hblk2.cell 5; have f52 := hblk2.free 5; simp [frC] at c52; clear hblk2)
  all_goals
    have hbl2 := HT.out.blkA (by first | exact (Below.refl _ _).drew.alloc (Nat.le_refl _) _ | exact ((Below.refl _ _).alloc (Nat.le_refl _) _).drew | exact (Below.refl _ _).alloc (Nat.le_refl _) _) hg2
    have hne : w.heap.size ≠ S := by omega
    have hbox2 : Blk w2 w.heap.size 83 [.int .i64 t.cls, .int .i64 t.num, .bool t.made, .bool b, .slice none 0 0] := by
      refine (hg2.block _ (Nat.lt_of_lt_of_le HB.out.lt (Below.size (B := w1.heap.size) (by first | exact (Below.refl _ _).drew.alloc (Nat.le_refl _) _ | exact ((Below.refl _ _).alloc (Nat.le_refl _) _).drew | exact (Below.refl _ _).alloc (Nat.le_refl _) _))) ?_).trans (HB.out.below (by first | exact (Below.refl _ _).drew.alloc (Nat.le_refl _) _ | exact ((Below.refl _ _).alloc (Nat.le_refl _) _).drew | exact (Below.refl _ _).alloc (Nat.le_refl _) _))
      intro e
      have := HFP.out _ (HT.out.inA _ e.symm)
      omega
    have hbl3 := hbl2.set 5 (.slice A2 (Fs.length + 1) c2')
    have hbox3 := hbox2.setOther hne 5 (.slice A2 (Fs.length + 1) c2')
    have hO3 : Only S w2 (w2.setCell ⟨S, 5, none⟩ (.slice A2 (Fs.length + 1) c2')) := (Only.refl S w2).setCell rfl _
    have hs3 : (w2.setCell ⟨S, 5, none⟩ (.slice A2 (Fs.length + 1) c2')).heap.size = w2.heap.size := by simp [World.setCell]
    clear c0 c1 c2 c3 c4 c5 a5 a5' c52 f52 f5 hbl2 hbox2
    generalize w2.setCell ⟨S, 5, none⟩ (.slice A2 (Fs.length + 1) c2') = W3 at *
    have x0 := hbox3.cell 0
    have x1 := hbox3.cell 1
    have x2 := hbox3.cell 2
    have x3 := hbox3.cell 3
    have x4 := hbox3.cell 4
    have k0 := hbl3.cell 0
    have k1 := hbl3.cell 1
    have k2 := hbl3.cell 2
    have k3 := hbl3.cell 3
    have k4 := hbl3.cell 4
    have g0 := hbl3.free 0
    have g1 := hbl3.free 1
    have g2 := hbl3.free 2
    have g3 := hbl3.free 3
    have g4 := hbl3.free 4
    simp [frC] at x0 x1 x2 x3 x4 k0 k1 k2 k3 k4
    have HBL := Lib.hid hbl3
    have HO3 := Lib.hid hO3
    have HS3 := Lib.hid hs3
    have HRO := Lib.hid hrow2
    have HG := Lib.hid hg2
    have HV := Lib.hid hv2
    clear hbl3 hbox3 hO3 hs3 hrow2 hg2 hv2
    go_wp2
    go_end0
    have hW := ((((HBL.out.set 0 (.int .i64 t.cls)).set 1 (.int .i64 t.num)).set 2 (.bool t.made)).set 3 (.bool b)).set 4 (.slice none 0 0)
    have hP := HT.out.push (t := t) (b := b) (by first | exact (Below.refl _ _).drew.alloc (Nat.le_refl _) _ | exact ((Below.refl _ _).alloc (Nat.le_refl _) _).drew | exact (Below.refl _ _).alloc (Nat.le_refl _) _) HRO.out HG.out HV.out (by simpa [frC] using hW)
      (HO3.out.trans ((((((Only.refl S W3).setCell (p := ⟨S, 0, none⟩) rfl _).setCell (p := ⟨S, 1, none⟩) rfl _).setCell (p := ⟨S, 2, none⟩) rfl _).setCell (p := ⟨S, 3, none⟩) rfl _).setCell (p := ⟨S, 4, none⟩) rfl _)) (by simp [World.setCell]; exact HS3.out)
    exact ⟨rfl, _, ⟨_, _, _, hP.1⟩, (OnlyF.of_below hb1).trans hP.2.1 (Grew.refl _ _), fun k hk => (hP.2.2 k hk).imp id (fun h => Nat.le_trans hb1.size h)⟩

set_option maxHeartbeats 800000 in
theorem bdEnterNo (S : Nat) (fp : List Nat) (F : Fr) (Fs : List Fr) (er : Int) (t : Tg) (b : Bool) (w : World) (h : Sh w S fp F Fs er) (he : er ≠ 0) :
    Calls Try.prog 47 #[.pointer (some ⟨S, 0, none⟩), .agg #[.int .i64 t.cls, .int .i64 t.num, .bool t.made, .bool b, .slice none 0 0]] w fun e w' => e = .returned (.tuple #[]) ∧ ShOk w S fp F Fs er w' := by
  have b0 := below_alloc1 w (.cells #[.int .i64 t.cls, .int .i64 t.num, .bool t.made, .bool b, .slice none 0 0] 83)
  have HD := Lib.hid (bdDead S fp F Fs er _ (h.below b0))
  have HR : Hid (∀ W, Qt (w.alloc (.cells #[.int .i64 t.cls, .int .i64 t.num, .bool t.made, .bool b, .slice none 0 0] 83)) W → ShOk w S fp F Fs er W) := fun W hq => ShOk.same h (b0.trans (hq.below (B := w.heap.size)))
  have e1 : (er != 0) = true := by simp; exact he
  clear h b0 he
  go_enter Try.func47, Try.ntmps47
  go_wp2_with fail
  refine HD.out.mono ?_
  rintro e w1 ⟨rfl, hq⟩
  have HR2 := Lib.hid (HR.out _ hq)
  clear HD HR hq
  go_wp2
  refine bodyPost_ret (results_none rfl _ _ _) rfl ?_
  exact ⟨rfl, HR2.out⟩

/-- What opening makes of the frames. -/
def opnF (F : Fr) (er : Int) (t : Tg) (b : Bool) : Fr := if er = 0 then ⟨t, b, []⟩ else F
def opnL (F : Fr) (Fs : List Fr) (er : Int) : List Fr := if er = 0 then Fs ++ [F] else Fs
theorem bdEnterAny (S : Nat) (fp : List Nat) (F : Fr) (Fs : List Fr) (er : Int) (t : Tg) (b : Bool) (w : World) (h : Sh w S fp F Fs er) (hn : Fs.length ≤ 1000000) :
    Calls Try.prog 47 #[.pointer (some ⟨S, 0, none⟩), .agg #[.int .i64 t.cls, .int .i64 t.num, .bool t.made, .bool b, .slice none 0 0]] w fun e w' => e = .returned (.tuple #[]) ∧ ShOk w S fp (opnF F er t b) (opnL F Fs er) er w' := by
  unfold opnF opnL
  by_cases q : er = 0
  · subst q; rw [if_pos rfl, if_pos rfl]; exact bdEnter S fp F Fs t b w h hn
  · rw [if_neg q, if_neg q]; exact bdEnterNo S fp F Fs er t b w h q

set_option maxHeartbeats 800000 in
theorem bdOpen (S : Nat) (fp : List Nat) (F : Fr) (Fs : List Fr) (er : Int) (t : Tg) (w : World) (h : Sh w S fp F Fs er) (hn : Fs.length ≤ 1000000) :
    Calls Try.prog 12 #[.pointer (some ⟨S, 0, none⟩), t.v] w fun e w' => e = .returned (.tuple #[]) ∧ ShOk w S fp (opnF F er t false) (opnL F Fs er) er w' := by
  have b0 := below_alloc1 w (blk3 t.cls t.num t.made)
  have HE := Lib.hid (bdEnterAny S fp F Fs er t false _ (h.below b0) hn)
  have HR : Hid (∀ W, ShOk (w.alloc (blk3 t.cls t.num t.made)) S fp (opnF F er t false) (opnL F Fs er) er W → ShOk w S fp (opnF F er t false) (opnL F Fs er) er W) := fun W ⟨fp', h1, h2, h3⟩ => ⟨fp', h1, (OnlyF.of_below b0).trans h2 (Grew.refl _ _), fun k hk => (h3 k hk).imp id (fun h => Nat.le_trans b0.size h)⟩
  clear h b0
  obtain ⟨tc, tn, tm⟩ := t
  unfold Tg.v at *
  generalize opnF F er ⟨tc, tn, tm⟩ false = F2 at *
  go_enter Try.func12, Try.ntmps12
  go_wp2_with fail
  refine HE.out.mono ?_
  rintro e w2 ⟨rfl, h2⟩
  have HR2 := Lib.hid (HR.out _ h2)
  clear h2 HR HE
  go_wp2
  go_end0
  exact ⟨rfl, HR2.out⟩

set_option maxHeartbeats 800000 in
theorem bdOpenSet (S : Nat) (fp : List Nat) (F : Fr) (Fs : List Fr) (er : Int) (w : World) (h : Sh w S fp F Fs er) (hn : Fs.length ≤ 1000000) :
    Calls Try.prog 14 #[.pointer (some ⟨S, 0, none⟩)] w fun e w' => e = .returned (.tuple #[]) ∧ ShOk w S fp (opnF F er tg0 true) (opnL F Fs er) er w' := by
  have HE := Lib.hid (bdEnterAny S fp F Fs er tg0 true w h hn)
  clear h
  generalize opnF F er tg0 true = F2 at *
  unfold tg0 at HE
  go_enter Try.func14, Try.ntmps14
  go_wp2_with fail
  refine HE.out.mono ?_
  rintro e w2 ⟨rfl, h2⟩
  have HR2 := Lib.hid h2
  clear h2 HE
  go_wp2
  go_end0
  exact ⟨rfl, HR2.out⟩

/-! ### a nil sheet -/

set_option maxHeartbeats 800000 in
theorem bdPut0 (A : Option Addr) (n c : Nat) (w : World) :
    Calls Try.prog 11 #[.pointer none, .slice A n c] w fun e w' => e = .returned (.tuple #[]) ∧ Qt w w' := by
  go_enter Try.func11, Try.ntmps11
  go_wp2_with fail
  refine (bdDead0 _).mono ?_
  rintro e w1 ⟨rfl, hq⟩
  have HQ := Lib.hid hq
  clear hq
  go_wp2
  go_end0
  exact ⟨rfl, HQ.out⟩

set_option maxHeartbeats 800000 in
theorem bdEnter0 (t : Tg) (b : Bool) (w : World) :
    Calls Try.prog 47 #[.pointer none, .agg #[.int .i64 t.cls, .int .i64 t.num, .bool t.made, .bool b, .slice none 0 0]] w fun e w' => e = .returned (.tuple #[]) ∧ Below w.heap.size w w' := by
  have b0 := below_alloc1 w (.cells #[.int .i64 t.cls, .int .i64 t.num, .bool t.made, .bool b, .slice none 0 0] 83)
  have HD := Lib.hid (bdDead0 (w.alloc (.cells #[.int .i64 t.cls, .int .i64 t.num, .bool t.made, .bool b, .slice none 0 0] 83)))
  have HR : Hid (∀ W, Qt (w.alloc (.cells #[.int .i64 t.cls, .int .i64 t.num, .bool t.made, .bool b, .slice none 0 0] 83)) W → Below w.heap.size w W) := fun W hq => b0.trans (hq.below (B := w.heap.size))
  clear b0
  go_enter Try.func47, Try.ntmps47
  go_wp2_with fail
  refine HD.out.mono ?_
  rintro e w1 ⟨rfl, hq⟩
  have HR2 := Lib.hid (HR.out _ hq)
  clear HD HR hq
  go_wp2
  refine bodyPost_ret (results_none rfl _ _ _) rfl ?_
  exact ⟨rfl, HR2.out⟩

set_option maxHeartbeats 800000 in
theorem bdOpenSet0 (w : World) :
    Calls Try.prog 14 #[.pointer none] w fun e w' => e = .returned (.tuple #[]) ∧ Below w.heap.size w w' := by
  have HE := Lib.hid (bdEnter0 tg0 true w)
  unfold tg0 at HE
  go_enter Try.func14, Try.ntmps14
  go_wp2_with fail
  refine HE.out.mono ?_
  rintro e w2 ⟨rfl, h2⟩
  have HR2 := Lib.hid h2
  clear h2 HE
  go_wp2
  go_end0
  exact ⟨rfl, HR2.out⟩

end Go.Proofs.Ytbhfaakhcnkegaa

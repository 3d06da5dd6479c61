/-
  A sheet's calls: Bytes, Fail.
-/
import Derived.Test.YtbhfaakhcnkegaaWh
import Derived.Laws.CopyRow
namespace Go.Proofs.Ytbhfaakhcnkegaa
open Go.RowKit
set_option linter.unusedVariables false
set_option linter.unusedSimpArgs false
set_option maxRecDepth 4000

/-- What a sheet has built. -/
def bytF (F : Fr) (Fs : List Fr) (er : Int) : List UInt8 × Int := if er ≠ 0 then ([], er) else if 0 < Fs.length then ([], 17) else (F.b, 0)

set_option maxHeartbeats 1600000 in
theorem bdBytes (S : Nat) (fp : List Nat) (F : Fr) (Fs : List Fr) (er : Int) (w : World) (h : Sh w S fp F Fs er) (hlen : F.b.length ≤ 1099511627776) :
    Calls Try.prog 18 #[.pointer (some ⟨S, 0, none⟩)] w (ElemOk w (bytF F Fs er)) := by
  have HDp := Lib.hid (bdDepth S fp F Fs er w h)
  obtain ⟨v, va, vs, hT⟩ := h
  obtain ⟨⟨_, _, _, _, _, _, c6⟩, _⟩ := hT.cells
  have HCo := Lib.hid (fun (W : World) (hW : Qt w W) => bdContents S fp F Fs er v va vs W (hT.below hW.below))
  have HJ := Lib.hid (fun (A : Option Addr) (W : World) (hb : Bss W A 1 [F.b]) => octJoin A 1 1 [F.b] W hb (by omega) (by simpa using hlen))
  have HBy : Hid (bytF F Fs er = if er ≠ 0 then ([], er) else if 0 < Fs.length then ([], 17) else (F.b, 0)) := rfl
  clear hT hlen
  by_cases q : er = 0
  · subst q
    have hBy2 : Hid (bytF F Fs 0 = if 0 < Fs.length then ([], 17) else (F.b, 0)) := by unfold Hid; rw [HBy.out, if_neg (by simp)]
    clear HBy
    generalize hN : Fs.length = N at *
    clear hN
    by_cases q2 : 0 < N
    · have e2 : decide ((0 : Int) < (N : Int)) = true := by simp; exact q2
      have HB3 : Hid (bytF F Fs 0 = ([], 17)) := by unfold Hid; rw [hBy2.out, if_pos q2]
      clear hBy2
      go_enter Try.func18, Try.ntmps18
      go_wp2_with fail
      refine HDp.out.mono ?_
      rintro e w1 ⟨rfl, hq⟩
      have HQ := Lib.hid hq
      clear hq HDp HCo HJ c6
      go_wp2
      go_ret2
      rw [HB3.out]
      exact ⟨none, 0, 0, rfl, Ob.nil _ _ _, HQ.out.below⟩
    · have e2 : decide ((0 : Int) < (N : Int)) = false := by simp; omega
      have HB3 : Hid (bytF F Fs 0 = (F.b, 0)) := by unfold Hid; rw [hBy2.out, if_neg q2]
      have hN0 : N = 0 := by omega
      subst hN0
      clear hBy2 q2
      go_enter Try.func18, Try.ntmps18
      go_wp2_with fail
      refine HDp.out.mono ?_
      rintro e w1 ⟨rfl, hq⟩
      have HQ := Lib.hid hq
      clear hq HDp c6
      go_wp2_with fail
      refine (HCo.out _ HQ.out).mono ?_
      rintro e w2 ⟨⟨A, rfl, hbs⟩, hq2⟩
      have hb2 : Below w.heap.size w w2 := (HQ.out.trans hq2).below
      have hbss := Bss.new1 41 hbs (Nat.le_refl _)
      have hb3 := hb2.alloc hb2.size (.cells #[.slice A F.b.length F.b.length] 41)
      clear hbs hq2 HCo hb2
      go_wp2_with fail
      refine (HJ.out _ _ hbss).mono ?_
      rintro e w4 ⟨A4, n4, c4, rfl, hob, hb4⟩
      rw [show [F.b].flatten = F.b by simp] at hob
      have hob5 := hob.mono hb3.size
      have hb5 := hb3.trans (hb4.mono hb3.size)
      clear hob hb4 hb3 HJ hbss
      go_wp2
      go_ret2
      rw [HB3.out]
      exact ⟨A4, n4, c4, rfl, hob5, hb5⟩
  · have e1 : (er != 0) = true := by simp; exact q
    have HB3 : Hid (bytF F Fs er = ([], er)) := by unfold Hid; rw [HBy.out, if_pos q]
    clear HBy HDp HCo HJ q
    go_enter Try.func18, Try.ntmps18
    go_wp2_with fail
    go_quiet (fail)
    go_wp2
    go_ret2
    rw [HB3.out]
    exact ⟨none, 0, 0, rfl, Ob.nil _ _ _, (Qt.of _ _).below⟩

theorem bdBytes0 (w : World) :
    Calls Try.prog 18 #[.pointer none] w fun e w' => e = .returned (.tuple #[.slice none 0 0, .int .i64 17]) ∧ Qt w w' := by
  go_enter Try.func18, Try.ntmps18
  go_wp2
  go_ret2
  exact ⟨rfl, Qt.refl _⟩

/-! ### Fail -/

/-- A cleared row: n frames that are zero. -/
theorem zero_frames (n : Nat) : (Builtin.zeroCells (Value.agg #[.int .i64 0, .int .i64 0, .bool false, .bool false, .slice none 0 0]).cells n).toList = frCs (List.replicate n fr0) (List.replicate n (.slice none 0 0)) := by
  have key : ∀ n : Nat, (List.range (n * 5)).map (fun i => (#[Value.int .i64 0, .int .i64 0, .bool false, .bool false, .slice none 0 0] : Array Value)[i % 5]!) = frCs (List.replicate n fr0) (List.replicate n (.slice none 0 0)) := by
    intro n
    induction n with
    | zero => rfl
    | succ n ih =>
      rw [List.replicate_succ', List.replicate_succ', frCs_append (by simp), ← ih, Nat.add_mul, List.range_add, List.map_append, List.map_map]
      congr 1
      simp only [Nat.one_mul]
      rw [show List.range 5 = [0, 1, 2, 3, 4] from rfl]
      simp only [List.map_cons, List.map_nil, Function.comp_apply]
      rw [show (n * 5 + 0) % 5 = 0 by omega, show (n * 5 + 1) % 5 = 1 by omega, show (n * 5 + 2) % 5 = 2 by omega, show (n * 5 + 3) % 5 = 3 by omega, show (n * 5 + 4) % 5 = 4 by omega]
      rfl
  rw [← key n]
  unfold Builtin.zeroCells
  have hc : (Value.agg #[.int .i64 0, .int .i64 0, .bool false, .bool false, .slice none 0 0]).cells = #[Value.int .i64 0, .int .i64 0, .bool false, .bool false, .slice none 0 0] := by rfl
  rw [hc]
  simp

theorem frCs_one (n : Nat) : ∀ v ∈ frCs (List.replicate n fr0) (List.replicate n (Value.slice none 0 0)), v.oneCell' = true := by
  induction n with
  | zero => intro v hv; cases hv
  | succ n ih =>
    intro v hv
    rw [List.replicate_succ, List.replicate_succ, frCs] at hv
    rcases List.mem_append.1 hv with h | h
    · simp [frC] at h
      rcases h with rfl | rfl | rfl | rfl | rfl <;> rfl
    · exact ih v h

theorem run_clearF {w : World} {g o m c : Nat} {cur : Array Value} (hg : w.heap[g]? = some (.cells cur 83 (0, 0))) (hb : o + m * 5 ≤ cur.size) (ty : TypeId) :
    (Builtin.clear_ #[84] ty #[.slice (some ⟨g, o, none⟩) m c]).run Try.prog w = .ok (.tuple #[]) (w.setRow g (cur.toList.take o ++ frCs (List.replicate m fr0) (List.replicate m (.slice none 0 0)) ++ cur.toList.drop (o + m * 5)).toArray) := by
  obtain ⟨i1, hi1, hz0, hz1, hz2⟩ := info_parts fr_info
  have hv : ∀ w, (zeroValue 83).run Try.prog w = .ok (.agg #[.int .i64 0, .int .i64 0, .bool false, .bool false, .slice none 0 0]) w := by
    intro w
    simp [zeroValue, typeInfo, hi1, hz0]
  have hl : (frCs (List.replicate m fr0) (List.replicate m (Value.slice none 0 0))).length = m * 5 := by rw [frCs_len (by simp)]; simp
  have hst := run_storeCells_at (P := Try.prog) g o 83 (frCs (List.replicate m fr0) (List.replicate m (.slice none 0 0))) 0 cur w hg (by rw [hl]; omega) (frCs_one m)
  simp only [Nat.add_zero, hl] at hst
  rcases m with _ | m
  · simp [Builtin.clear_, run_underlying Try.underlying84, frCs]
    exact (setRow_self w g cur _ _ hg).symm
  · simp [Builtin.clear_, run_underlying Try.underlying84, hv, zero_frames, hst]

/-- The frames are forgotten. -/
theorem Sht.wipe {w W : World} {S : Nat} {fp : List Nat} {F : Fr} {Fs : List Fr} {e x : Int} {v va : Value} {vs : List Value} (h : Sht w S fp F Fs e v va vs)
    (hrow : W.ownsRow 0 83 5 va Fs.length (frCs (List.replicate Fs.length fr0) (List.replicate Fs.length (.slice none 0 0))))
    (hW : Blk W S 86 (frC fr0 (.slice none 0 0) ++ [va, .int .i64 x])) (hO : OnlyF fp w W) :
    Sht W S fp fr0 (List.replicate Fs.length fr0) x (.slice none 0 0) va (List.replicate Fs.length (.slice none 0 0)) := by
  have hnone : ∀ u ∈ (Value.slice none 0 0 :: List.replicate Fs.length (Value.slice none 0 0)), u = .slice none 0 0 := by
    intro u hu
    rcases List.mem_cons.1 hu with h | h
    · exact h
    · exact List.eq_of_mem_replicate h
  refine ⟨hW, by rw [List.length_replicate]; exact hrow, ⟨by simp, fun i f hf => ?_⟩, ?_, h.inS, h.inA, fun u hu k hk => ?_, fun k hk => Nat.lt_of_lt_of_le (h.lt k hk) hO.size⟩
  · have hf0 : f = fr0 := by
      have := List.mem_of_getElem? hf
      rcases List.mem_cons.1 this with h | h
      · exact h
      · exact List.eq_of_mem_replicate h
    subst hf0
    have hi : i < (Value.slice none 0 0 :: List.replicate Fs.length (Value.slice none 0 0)).length := by
      have := (List.getElem?_eq_some_iff.1 hf).1
      simpa using this
    refine ⟨.slice none 0 0, ?_, Ob.nil _ _ _⟩
    rw [List.getElem?_eq_getElem hi, hnone _ (List.getElem_mem hi)]
  · have : (Value.slice none 0 0 :: List.replicate Fs.length (Value.slice none 0 0)).filterMap Value.ownBlock = [] := by
      rw [List.filterMap_eq_nil_iff]
      intro u hu
      rw [hnone u hu]; rfl
    rw [this]; exact List.nodup_nil
  · rw [hnone u hu] at hk; cases hk

theorem clear_any {w1 W : World} {S : Nat} {fp : List Nat} {F : Fr} {Fs : List Fr} {e : Int} {v va : Value} {vs : List Value} (h : Sht w1 S fp F Fs e v va vs) (hO : Only S w1 W) :
    ∃ W', (∀ ty, (Builtin.clear_ #[84] ty #[va]).run Try.prog W = .ok (.tuple #[]) W') ∧ W'.ownsRow 0 83 5 va Fs.length (frCs (List.replicate Fs.length fr0) (List.replicate Fs.length (.slice none 0 0))) ∧ W.grownBy W' va.ownBlock := by
  have hz : (frCs (List.replicate Fs.length fr0) (List.replicate Fs.length (Value.slice none 0 0))).length = Fs.length * 5 := by rw [frCs_len (by simp)]; simp
  have hSv : va.ownBlock ≠ some S := h.blk.notRow h.row (by decide)
  rcases h.row.2 with ⟨rfl, h0⟩ | ⟨g, cap, cur, rfl, _, hg, hle, hmx, hsz, _⟩
  · refine ⟨W, fun ty => ?_, ⟨hz, .inl ⟨rfl, h0⟩⟩, World.grownBy.refl W _⟩
    simp [Builtin.clear_, run_underlying Try.underlying84]
  · have hgW : W.heap[g]? = some (.cells cur 83 (0, 0)) := (hO.block g (lt_of_block hg) (by intro e; cases e; exact hSv rfl)).trans hg
    refine ⟨_, fun ty => run_clearF (o := 0) (c := cap) hgW (by omega) ty, ⟨hz, .inr ⟨g, cap, _, rfl, Nat.zero_le _, setRow_heap W g cur _ _ _ hgW, hle, hmx, ?_, ?_⟩⟩, ⟨rfl, rfl, rfl, by simp, fun k hk hne => setRow_other W g k _ (by intro e; subst e; exact hne rfl)⟩⟩
    · simp [hz]; omega
    · simp [hz]

def failF (F : Fr) (er x : Int) : Fr := if er = 0 ∧ x ≠ 0 then fr0 else F
def failL (Fs : List Fr) (er x : Int) : List Fr := if er = 0 ∧ x ≠ 0 then List.replicate Fs.length fr0 else Fs
def failE (er x : Int) : Int := if er = 0 then x else er

set_option maxHeartbeats 3200000 in
theorem bdFailYes (S : Nat) (fp : List Nat) (F : Fr) (Fs : List Fr) (x : Int) (w : World) (h : Sh w S fp F Fs 0) (hx : x ≠ 0) :
    Calls Try.prog 16 #[.pointer (some ⟨S, 0, none⟩), .int .i64 x] w fun e w' => e = .returned (.tuple #[]) ∧ ShOk w S fp fr0 (List.replicate Fs.length fr0) x w' := by
  have HD := Lib.hid (bdDead S fp F Fs 0 _ h)
  have e1 : ((0 : Int) != 0) = false := rfl
  have e2 : (x == 0) = false := by simp; exact hx
  go_enter Try.func16, Try.ntmps16
  go_wp2_with fail
  refine HD.out.mono ?_
  rintro e w1 ⟨rfl, hq⟩
  obtain ⟨v, va, vs, hT⟩ := h.qt hq
  have hqb : Below w.heap.size w w1 := hq.below
  obtain ⟨⟨c0, c1, c2, c3, c4, c5, c6⟩, hf⟩ := hT.cells
  have f0 := hf 0
  have f1 := hf 1
  have f2 := hf 2
  have f3 := hf 3
  have f4 := hf 4
  have f6 := hf 6
  have hbW := ((((((hT.blk.set 6 (.int .i64 x)).set 0 (.int .i64 0)).set 1 (.int .i64 0)).set 2 (.bool false)).set 3 (.bool false)).set 4 (.slice none 0 0))
  have hOW := (((((((Only.refl S w1).setCell (p := ⟨S, 6, none⟩) rfl (.int .i64 x)).setCell (p := ⟨S, 0, none⟩) rfl (.int .i64 0)).setCell (p := ⟨S, 1, none⟩) rfl (.int .i64 0)).setCell (p := ⟨S, 2, none⟩) rfl (.bool false)).setCell (p := ⟨S, 3, none⟩) rfl (.bool false)).setCell (p := ⟨S, 4, none⟩) rfl (.slice none 0 0))
  have HT := Lib.hid hT
  have HBW := Lib.hid hbW
  have HOW := Lib.hid hOW
  clear HD hq h hf hx hbW hOW hT
  go_wp2_with (at_builtin; fail)
  clear c0 c1 c2 c3 c4 c5 c6 f0 f1 f2 f3 f4 f6
  generalize ((((((w1.setCell { block := S, off := 6 } (Value.int IntKind.i64 x)).setCell { block := S, off := 0 } (.int .i64 0)).setCell { block := S, off := 1 } (.int .i64 0)).setCell { block := S, off := 2 } (.bool false)).setCell { block := S, off := 3 } (.bool false)).setCell { block := S, off := 4 } (Value.slice none 0 0)) = W at *
  obtain ⟨W', hcl, hrow', hg'⟩ := clear_any HT.out HOW.out
  have hbW' : Blk W' S 86 _ := (hg'.block S HBW.out.lt (by have := HT.out.blk.notRow HT.out.row (by decide); exact fun e => this e.symm)).trans HBW.out
  have hOW' : OnlyF fp w1 W' := (OnlyF.of_only HOW.out HT.out.inS).trans (.of_grown (fp := fp) hg' fun k hk => .inl (HT.out.inA k hk)) (Grew.refl _ _)
  have hFin := HT.out.wipe (x := x) hrow' (by simpa [frC, fr0, tg0] using hbW') hOW'
  have HFin := Lib.hid hFin
  have HOW' := Lib.hid hOW'
  clear hrow' hg' hbW' hFin hOW'
  rw [hcl]
  clear hcl
  go_wp2
  go_end0
  exact ⟨rfl, fp, ⟨_, _, _, HFin.out⟩, (OnlyF.of_below hqb).trans HOW'.out (Grew.refl _ _), Grew.refl _ _⟩

set_option maxHeartbeats 1600000 in
theorem bdFailNo (S : Nat) (fp : List Nat) (F : Fr) (Fs : List Fr) (er x : Int) (w : World) (h : Sh w S fp F Fs er) (hx : er ≠ 0 ∨ x = 0) :
    Calls Try.prog 16 #[.pointer (some ⟨S, 0, none⟩), .int .i64 x] w fun e w' => e = .returned (.tuple #[]) ∧ ShOk w S fp F Fs er w' := by
  have HD := Lib.hid (bdDead S fp F Fs er _ h)
  have HS : Hid (∀ W, Qt w W → ShOk w S fp F Fs er W) := fun W hq => ShOk.same h hq.below
  clear h
  by_cases q : er = 0
  · subst q
    have hx0 : x = 0 := by omega
    subst hx0
    go_enter Try.func16, Try.ntmps16
    go_wp2_with fail
    refine HD.out.mono ?_
    rintro e w1 ⟨rfl, hq⟩
    have HQ := Lib.hid (HS.out _ hq)
    clear HD HS hq
    go_wp2
    refine bodyPost_ret (results_none rfl _ _ _) rfl ?_
    exact ⟨rfl, HQ.out⟩
  · have e1 : (er != 0) = true := by simp; exact q
    clear q hx
    go_enter Try.func16, Try.ntmps16
    go_wp2_with fail
    refine HD.out.mono ?_
    rintro e w1 ⟨rfl, hq⟩
    have HQ := Lib.hid (HS.out _ hq)
    clear HD HS hq
    go_wp2
    refine bodyPost_ret (results_none rfl _ _ _) rfl ?_
    exact ⟨rfl, HQ.out⟩

theorem bdFail (S : Nat) (fp : List Nat) (F : Fr) (Fs : List Fr) (er x : Int) (w : World) (h : Sh w S fp F Fs er) :
    Calls Try.prog 16 #[.pointer (some ⟨S, 0, none⟩), .int .i64 x] w fun e w' => e = .returned (.tuple #[]) ∧ ShOk w S fp (failF F er x) (failL Fs er x) (failE er x) w' := by
  unfold failF failL failE
  by_cases q : er = 0
  · subst q
    by_cases hx : x = 0
    · subst hx
      rw [if_neg (by simp), if_neg (by simp), if_pos rfl]
      exact bdFailNo S fp F Fs 0 0 w h (.inr rfl)
    · rw [if_pos ⟨rfl, hx⟩, if_pos ⟨rfl, hx⟩, if_pos rfl]
      exact bdFailYes S fp F Fs x w h hx
  · rw [if_neg (by simp [q]), if_neg (by simp [q]), if_neg q]
    exact bdFailNo S fp F Fs er x w h (.inl q)

set_option maxHeartbeats 800000 in
theorem bdFail0 (x : Int) (w : World) :
    Calls Try.prog 16 #[.pointer none, .int .i64 x] w fun e w' => e = .returned (.tuple #[]) ∧ Qt w w' := by
  go_enter Try.func16, Try.ntmps16
  go_wp2_with fail
  refine (bdDead0 w).mono ?_
  rintro e w1 ⟨rfl, hq⟩
  have HQ := Lib.hid hq
  clear hq
  go_wp2
  refine bodyPost_ret (results_none rfl _ _ _) rfl ?_
  exact ⟨rfl, HQ.out⟩

end Go.Proofs.Ytbhfaakhcnkegaa

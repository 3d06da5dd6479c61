/-
  The two sheets in one memory; few; a list of calls as an argument.
-/
import Derived.Test.YtbhfaakhcnkegaaZB
import Derived.Test.YtbhfaakhcnkegaaXa
import Derived.Test.YtbhfaakhcnkegaaOpen
namespace Go.Proofs.Ytbhfaakhcnkegaa
open Go.RowKit Go.Joins
set_option linter.unusedVariables false
set_option linter.unusedSimpArgs false
set_option maxRecDepth 4000

/-! ### Zi -/
/-- A call that the law is handed. -/
structure ActL where
  kind : Int
  ls : List (List UInt8)
  t : Tg
  x : Int
/-- Calls in memory. -/
def Acts (w : World) (A : Option Addr) (n : Nat) (xs : List ActL) : Prop :=
  xs.length = n ∧ ∀ i a, xs[i]? = some a → ∃ b o Ai ni ci, A = some ⟨b, o, none⟩ ∧ (w.cell? ⟨b, o + i * 6, none⟩ = some (.int .i64 a.kind) ∧ w.cell? ⟨b, o + i * 6 + 1, none⟩ = some (.slice Ai ni ci) ∧ w.cell? ⟨b, o + i * 6 + 2, none⟩ = some (.int .i64 a.t.cls) ∧
    w.cell? ⟨b, o + i * 6 + 3, none⟩ = some (.int .i64 a.t.num) ∧ w.cell? ⟨b, o + i * 6 + 4, none⟩ = some (.bool a.t.made) ∧ w.cell? ⟨b, o + i * 6 + 5, none⟩ = some (.int .i64 a.x)) ∧ Bss w Ai ni a.ls ∧ ni ≤ ci
theorem Acts.below {w w' : World} {A : Option Addr} {n : Nat} {xs : List ActL} (h : Acts w A n xs) (hb : Below w.heap.size w w') : Acts w' A n xs := by
  refine ⟨h.1, fun i a ha => ?_⟩
  obtain ⟨b, o, Ai, ni, ci, rfl, ⟨h0, h1, h2, h3, h4, h5⟩, hs, hn⟩ := h.2 i a ha
  have hk : ∀ {i : Nat} {v : Value}, w.cell? ⟨b, i, none⟩ = some v → w'.cell? ⟨b, i, none⟩ = some v := fun h => (hb.cell (World.block_lt_of_cell? _ _ h)).trans h
  exact ⟨b, o, Ai, ni, ci, rfl, ⟨hk h0, hk h1, hk h2, hk h3, hk h4, hk h5⟩, hs.below hb, hn⟩

/-- The two sheets in one memory. -/
structure Two (w0 w : World) (S T : Nat) (fp rp : List Nat) (F : Fr) (Fs : List Fr) (er : Int) (fs : List Fr) (e2 : Int) : Prop where
  sh : Sh w S fp F Fs er
  rs : Rs w T rp fs e2
  apart : ∀ k ∈ fp, k ∉ rp
  fpB : ∀ k ∈ fp, w0.heap.size ≤ k
  rpB : ∀ k ∈ rp, w0.heap.size ≤ k
  bel : Below w0.heap.size w0 w
theorem Rs.lt {w : World} {T : Nat} {rp : List Nat} {fs : List Fr} {e : Int} (h : Rs w T rp fs e) : ∀ k ∈ rp, k < w.heap.size := by
  obtain ⟨_, _, h⟩ := h; exact h.lt
theorem Sh.lt {w : World} {S : Nat} {fp : List Nat} {F : Fr} {Fs : List Fr} {e : Int} (h : Sh w S fp F Fs e) : ∀ k ∈ fp, k < w.heap.size := by
  obtain ⟨_, _, _, h⟩ := h; exact h.lt
theorem Two.below {w0 w w' : World} {S T : Nat} {fp rp : List Nat} {F : Fr} {Fs fs : List Fr} {er e2 : Int} (h : Two w0 w S T fp rp F Fs er fs e2) (hb : Below w.heap.size w w') : Two w0 w' S T fp rp F Fs er fs e2 :=
  ⟨h.sh.below hb, h.rs.below hb, h.apart, h.fpB, h.rpB, h.bel.trans (hb.mono h.bel.size)⟩
theorem Two.left {w0 w w' : World} {S T : Nat} {fp rp : List Nat} {F F' : Fr} {Fs Fs' fs : List Fr} {er er' e2 : Int} (h : Two w0 w S T fp rp F Fs er fs e2) (hs : ShOk w S fp F' Fs' er' w') : ∃ fp', Two w0 w' S T fp' rp F' Fs' er' fs e2 := by
  obtain ⟨fq, h1, h2, h3⟩ := hs
  refine ⟨fq, h1, ?_, ?_, ?_, h.rpB, h2.below h.bel h.bel.size h.fpB⟩
  · obtain ⟨va, vs, hT⟩ := h.rs
    exact ⟨va, vs, hT.apart h2 fun k hk hf => h.apart k hf hk⟩
  · intro k hk hr
    rcases h3 k hk with q | q
    · exact h.apart k q hr
    · have := h.rs.lt k hr; omega
  · intro k hk
    rcases h3 k hk with q | q
    · exact h.fpB k q
    · exact Nat.le_trans h.bel.size q
theorem Two.right {w0 w w' : World} {S T : Nat} {fp rp : List Nat} {F : Fr} {Fs fs fs' : List Fr} {er e2 e2' : Int} (h : Two w0 w S T fp rp F Fs er fs e2) (hs : RsOk w T rp fs' e2' w') : ∃ rp', Two w0 w' S T fp rp' F Fs er fs' e2' := by
  obtain ⟨rq, h1, h2, h3⟩ := hs
  refine ⟨rq, ?_, h1, ?_, h.fpB, ?_, h2.below h.bel h.bel.size h.rpB⟩
  · obtain ⟨v, va, vs, hT⟩ := h.sh
    exact ⟨v, va, vs, hT.apart h2 fun k hk hr => h.apart k hk hr⟩
  · intro k hk hr
    rcases h3 k hr with q | q
    · exact h.apart k hk q
    · have := h.sh.lt k hk; omega
  · intro k hk
    rcases h3 k hk with q | q
    · exact h.rpB k q
    · exact Nat.le_trans h.bel.size q
theorem shOnly {w w' : World} {S : Nat} {fp : List Nat} {F : Fr} {Fs : List Fr} {e : Int} (h : ShOk w S fp F Fs e w') : OnlyF fp w w' := by
  obtain ⟨_, _, q, _⟩ := h; exact q
/-- A call leaves them so. -/
def LeftOk (w0 w : World) (S T : Nat) (fp rp : List Nat) (p : Fr × List Fr × Int) (fs : List Fr) (e2 : Int) (e : Ending) (w' : World) : Prop := e = .returned (.tuple #[]) ∧ OnlyF fp w w' ∧ ∃ fp', Two w0 w' S T fp' rp p.1 p.2.1 p.2.2 fs e2
theorem Two.put {w0 w : World} {S T : Nat} {fp rp : List Nat} {F : Fr} {Fs fs : List Fr} {er e2 : Int} (h : Two w0 w S T fp rp F Fs er fs e2) (A : Option Addr) (n c : Nat) (ls : List (List UInt8)) (t : Tg) (x : Int) (hr : ∀ W, OnlyF fp w W → Bss W A n ls) (hn : n ≤ 1000) (hls : ls.flatten.length ≤ 10000) (hB : sumB (Fs ++ [F]) ≤ 90000) :
    Calls Try.prog 11 #[.pointer (some ⟨S, 0, none⟩), .slice A n c] w (LeftOk w0 w S T fp rp (stpP 0 ls t x F Fs er) fs e2) := by
  have hF : F.b.length ≤ 90000 := Nat.le_trans (sumB_mem (by simp)) hB
  exact (bdPut S fp F Fs er A n c ls w h.sh hr (by omega) (by omega)).mono fun e w' hh => ⟨hh.1, shOnly hh.2, h.left hh.2⟩
theorem Two.opn {w0 w : World} {S T : Nat} {fp rp : List Nat} {F : Fr} {Fs fs : List Fr} {er e2 : Int} (h : Two w0 w S T fp rp F Fs er fs e2) (ls : List (List UInt8)) (t : Tg) (x : Int) (hl : Fs.length ≤ 900) :
    Calls Try.prog 12 #[.pointer (some ⟨S, 0, none⟩), t.v] w (LeftOk w0 w S T fp rp (stpP 1 ls t x F Fs er) fs e2) :=
  (bdOpen S fp F Fs er t w h.sh (by omega)).mono fun e w' hh => ⟨hh.1, shOnly hh.2, h.left hh.2⟩
theorem Two.set {w0 w : World} {S T : Nat} {fp rp : List Nat} {F : Fr} {Fs fs : List Fr} {er e2 : Int} (h : Two w0 w S T fp rp F Fs er fs e2) (ls : List (List UInt8)) (t : Tg) (x : Int) (hl : Fs.length ≤ 900) :
    Calls Try.prog 14 #[.pointer (some ⟨S, 0, none⟩)] w (LeftOk w0 w S T fp rp (stpP 2 ls t x F Fs er) fs e2) :=
  (bdOpenSet S fp F Fs er w h.sh (by omega)).mono fun e w' hh => ⟨hh.1, shOnly hh.2, h.left hh.2⟩
theorem Two.shut {w0 w : World} {S T : Nat} {fp rp : List Nat} {F : Fr} {Fs fs : List Fr} {er e2 : Int} (h : Two w0 w S T fp rp F Fs er fs e2) (ls : List (List UInt8)) (t : Tg) (x : Int) (hl : Fs.length ≤ 900) (hB : sumB (Fs ++ [F]) ≤ 90000) :
    Calls Try.prog 15 #[.pointer (some ⟨S, 0, none⟩)] w (LeftOk w0 w S T fp rp (stpP 3 ls t x F Fs er) fs e2) := by
  have hF : F.b.length ≤ 90000 := Nat.le_trans (sumB_mem (by simp)) hB
  refine (bdShut S fp F Fs er w h.sh (by omega) (fun G hG => ?_) (by omega)).mono fun e w' hh => ⟨hh.1, shOnly hh.2, h.left hh.2⟩
  have h1 : G.b.length ≤ 90000 := Nat.le_trans (sumB_mem (List.mem_append_left _ (List.mem_of_getLast? hG))) hB
  have h2 := elemF_len F
  omega
theorem Two.fail {w0 w : World} {S T : Nat} {fp rp : List Nat} {F : Fr} {Fs fs : List Fr} {er e2 : Int} (h : Two w0 w S T fp rp F Fs er fs e2) (ls : List (List UInt8)) (t : Tg) (x : Int) :
    Calls Try.prog 16 #[.pointer (some ⟨S, 0, none⟩), .int .i64 x] w (LeftOk w0 w S T fp rp (stpP 4 ls t x F Fs er) fs e2) :=
  (bdFail S fp F Fs er x w h.sh).mono fun e w' hh => ⟨hh.1, shOnly hh.2, h.left hh.2⟩
/-- .. and behind the reference's call. -/
def BothOk (w0 : World) (S T : Nat) (p : Fr × List Fr × Int) (e : Ending) (w' : World) : Prop := e = .returned (.tuple #[]) ∧ ∃ fp rp fs, Two w0 w' S T fp rp p.1 p.2.1 p.2.2 fs p.2.2 ∧ Agr p.1 p.2.1 p.2.2 fs
theorem Two.ref {w0 w : World} {S T : Nat} {fp rp : List Nat} {F : Fr} {Fs fs : List Fr} {er : Int} {k : Nat} {A : Option Addr} {n c : Nat} {ls : List (List UInt8)} {t : Tg} {x : Int} (h : Two w0 w S T fp rp (stpP k ls t x F Fs er).1 (stpP k ls t x F Fs er).2.1 (stpP k ls t x F Fs er).2.2 fs er) (ha : Agr F Fs er fs) (hk : k < 5) (hr : Bss w A n ls) (hn : n ≤ 1000) (hls : ls.flatten.length ≤ 10000) (hl : Fs.length ≤ 900) (hB : sumB (Fs ++ [F]) ≤ 90000) :
    Calls Try.prog 17 #[.pointer (some ⟨T, 0, none⟩), actv k (.slice A n c) t x] w (BothOk w0 S T (stpP k ls t x F Fs er)) :=
  (ref8Do T rp fs F Fs er k hk A n c ls t x w h.rs ha hr hn hls hl hB).mono fun e w' hh => by
    obtain ⟨h1, fs', h2, h3⟩ := hh
    obtain ⟨rq, h4⟩ := h.right h3
    exact ⟨h1, fp, rq, fs', h4, h2⟩
/-- What stands in both is the same. -/
theorem agr_bytes {F : Fr} {Fs : List Fr} {er : Int} {fs : List Fr} (ha : Agr F Fs er fs) (hne : fs ≠ []) :
    (if er ≠ 0 then er else if 1 < fs.length then 17 else 0) = (bytF F Fs er).2 ∧ (if er ≠ 0 then [] else if 1 < fs.length then [] else (fs.head hne).b) = (bytF F Fs er).1 := by
  unfold bytF
  by_cases q : er = 0
  · subst q
    have h1 := ha.1
    have h2 := ha.2 rfl
    have z : ¬ ((0 : Int) ≠ 0) := fun h => h rfl
    simp only [if_neg z]
    by_cases h0 : 0 < Fs.length
    · have h1' : 1 < fs.length := by omega
      simp [h1', h0]
    · obtain rfl : Fs = [] := List.eq_nil_of_length_eq_zero (by omega)
      subst h2
      exact ⟨rfl, by simp [rfF_b]⟩
  · rw [if_pos q, if_pos q, if_pos q]; exact ⟨rfl, rfl⟩

/-! ### Zk -/
def FewOkB (w0 w : World) (n : Nat) (ls : List (List UInt8)) (e : Ending) (w' : World) : Prop := ∃ v vs, e = .returned v ∧ w'.ownsRow w.heap.size 41 1 v (min n 10) vs ∧ Vss w0 vs (fewL ls (min n 10)) ∧ Below w.heap.size w w'

set_option maxHeartbeats 3200000 in
theorem lw8FewB (A : Option Addr) (n c : Nat) (ls : List (List UInt8)) (w0 w : World) (h : Bss w0 A n ls) (hb0 : Below w0.heap.size w0 w) :
    Calls Try.prog 10 #[.slice A n c] w (FewOkB w0 w n ls) := by
  obtain ⟨i1, hi1, hz0, hz1, hz2⟩ := info_parts sl_info
  have hll := h.len
  have H := Lib.hid h
  have HLL := Lib.hid hll
  have HBZ := Lib.hid hb0
  clear h hll hb0
  go_enter Try.func10, Try.ntmps10
  go_wp2
  go_loopw [3, 4] (fun v i wr => ∃ (k : Nat) (vs : List Value), k ≤ min n 10 ∧ i = .int .i64 (k : Int) ∧ wr.ownsRow w.heap.size 41 1 v k vs ∧ Vss w0 vs (fewL ls k) ∧ Below w.heap.size w wr) (fun _ i _ => 10 - (intOf i).toNat)
  case atStart => exact ⟨0, [], Nat.zero_le _, rfl, World.ownsRow_nil _ _ _ _, Vss.nil _, Below.refl _ _⟩
  case round =>
    obtain ⟨k, vs, hk, rfl, hrow, hvs, hB⟩ := hrel
    by_cases hlt : k < n
    · by_cases h10 : k < 10
      · obtain ⟨b, o, Ai, ni, ci, rfl, hc, hbs, hni⟩ := H.out.at_ hlt
        have hcw := ((HBZ.out.trans (hB.mono HBZ.out.size)).cell (World.block_lt_of_cell? w0 _ hc)).trans hc
        obtain ⟨M, hM⟩ : ∃ M, M = min ni 100 := ⟨_, rfl⟩
        have hm1 : (if (100 : Int) < (ni : Int) then (100 : Int) else (ni : Int)) = (M : Int) := by split <;> omega
        have hm2 : min (ni : Int) 100 = (M : Int) := by omega
        have hMc : (M : Int) ≤ (ci : Int) := by omega
        have hMc2 : M ≤ ci := by omega
        have hbt : Hid (Bs w0 Ai M ((rowL ls k).take 100)) := by
          have h1 := hbs.take (m := M) (by omega)
          have h2 : (rowL ls k).take M = (rowL ls k).take 100 := by
            have h3 := hbs.len
            rw [hM]
            rcases Nat.lt_or_ge ni 100 with h4 | h4
            · rw [show min ni 100 = ni by omega, List.take_of_length_le (by omega), List.take_of_length_le (by omega)]
            · rw [show min ni 100 = 100 by omega]
          unfold Hid; rw [← h2]; exact h1
        have HC := Lib.hid hcw
        have HROW := Lib.hid hrow
        have HB := Lib.hid hB
        have hBs := hB.size
        have hvs2 := Lib.hid (hvs.append (Vss.cons hbt.out hMc2 (Vss.nil w0)))
        have hfs := Lib.hid (fewL_succ (ls := ls) (k := k) (by have := HLL.out; omega))
        clear hbs hni hM hc hrow hB hvs hbt
        have e1 : (k : Int) < (n : Int) := by omega
        have e2 : (k : Int) < 10 := by omega
        go_wp2_with fail
        go_region_law ((refine step_appendF (by rfl) _ _ 27 (by rfl) w.heap.size 41 i1 (.slice none 0 0) 1 24 Try.underlying27 hi1 hz0 hz1 hz2 (by rfl) (by omega) _ k vs (by rfl) (World.ownsRow.alloc HROW.out _) _ 1 _ [.slice Ai M ci] (by rfl) (by rfl) (news_new _ _ _) (by intro u hu; simp at hu; subst hu; rfl) (by unfold maxLen; omega) (by omega) (by simp; omega) ?_); intro v9 w2 hrow2 hg2 _)
        all_goals
          have hB2 : Below w.heap.size w w2 := (HB.out.alloc hBs (.cells #[.slice Ai M ci] 41)).grown ⟨hg2.os, hg2.tape, hg2.output, hg2.size, hg2.block⟩ (by simp; omega) (fun q hq => (HROW.out.lt q hq).1)
          have HR2 := Lib.hid hrow2
          clear hg2 hrow2 hcw
          go_wp2
          go_roundw
          case rel => exact ⟨k + 1, _, by omega, by go_num, HR2.out, by rw [hfs.out]; exact hvs2.out, hB2⟩
          case measure => (try simp [intOf]) <;> (try omega)
      · have hk10 : k = 10 := by omega
        have e1 : (k : Int) < (n : Int) := by omega
        have hmn : Hid (min n 10 = k) := by unfold Hid; omega
        subst hk10
        have HR2 := Lib.hid hrow
        have HV2 := Lib.hid hvs
        have HB2 := Lib.hid hB
        clear hrow hvs hB hk
        go_wp2
        go_ret
        unfold FewOkB
        rw [hmn.out]
        exact ⟨_, vs, rfl, HR2.out, HV2.out, HB2.out⟩
    · have hkn : k = n := by omega
      have hmn : Hid (min n 10 = k) := by unfold Hid; omega
      have e1 : ¬ (k : Int) < (n : Int) := by omega
      have HR2 := Lib.hid hrow
      have HV2 := Lib.hid hvs
      have HB2 := Lib.hid hB
      clear hrow hvs hB hk
      go_wp2
      go_ret
      unfold FewOkB
      rw [hmn.out]
      exact ⟨_, vs, rfl, HR2.out, HV2.out, HB2.out⟩


theorem fewL_short8 (ls : List (List UInt8)) (k : Nat) : ∀ l ∈ fewL ls k, l.length ≤ 100 := by
  intro l hl
  unfold fewL at hl
  obtain ⟨x, _, rfl⟩ := List.mem_map.1 hl
  simp; omega
theorem flat_le8 {N : Nat} : ∀ ls : List (List UInt8), (∀ l ∈ ls, l.length ≤ N) → ls.flatten.length ≤ ls.length * N
  | [], _ => by simp
  | l :: ls, h => by
    have h1 := h l (by simp)
    have h2 := flat_le8 ls (fun x hx => h x (List.mem_cons_of_mem _ hx))
    rw [List.flatten_cons, List.length_append, List.length_cons, Nat.add_mul]; omega
/-- What few hands back, as the law needs it: its rows read the same whatever changes that is no row's. -/
def FewV (w0 w : World) (N : Nat) (ms : List (List UInt8)) (e : Ending) (w' : World) : Prop :=
  ∃ A c, e = .returned (.slice A N c) ∧ Below w.heap.size w w' ∧ ∀ (fp : List Nat) (W : World), (∀ k ∈ fp, k < w.heap.size) → Below w0.heap.size w0 W → OnlyF fp w' W → Bss W A N ms
theorem FewOkB.v {w0 w w' : World} {n : Nat} {ls : List (List UInt8)} {e : Ending} (h : FewOkB w0 w n ls e w') : FewV w0 w (min n 10) (fewL ls (min n 10)) e w' := by
  obtain ⟨v, vs, rfl, hro, hv, hb⟩ := h
  have hf : ∃ A c, v = .slice A (min n 10) c := by
    rcases hro.2 with ⟨rfl, h0⟩ | ⟨g, cap, cur, rfl, _⟩
    · exact ⟨none, 0, by rw [h0]⟩
    · exact ⟨_, _, rfl⟩
  obtain ⟨A, c, rfl⟩ := hf
  refine ⟨A, c, rfl, hb, fun fp W hfp hW hO => ?_⟩
  have hro2 : W.ownsRow w.heap.size 41 1 (.slice A (min n 10) c) (min n 10) vs := by
    have hlt := fun k hk => (World.ownsRow.lt hro k hk).2
    refine ⟨hro.1, ?_⟩
    rcases hro.2 with h2 | ⟨g, cap, cur, hq, h0, hh, r⟩
    · exact .inl h2
    · exact .inr ⟨g, cap, cur, hq, h0, by rw [hO.block g (hlt g (by rw [hq]; rfl)) (fun hm => by have := hfp g hm; omega)]; exact hh, r⟩
  obtain ⟨A9, c9, hq, _, hb9⟩ := bss_own hro2 (hv.keep fun A n l hl => hl.below hW)
  simp only [Value.slice.injEq] at hq
  rw [hq.1]
  exact hb9

/-! ### Zo -/
section
variable {H : Type} {enc : TypeId × Value → H} {P : Program} {w : World} {held : Bool}
theorem trod_tag1 {t : TypeId} {f0 f1 f2 : Field} {fuel : Nat} {cs : List Value} {x : DataW H × List MemPlace} (he : P.underlying t = some (.struct #[f0, f1, f2])) (o0 : f0.offset = 0) (o1 : f1.offset = 1) (o2 : f2.offset = 2)
    (u0 : P.underlying f0.type = some (.int .i64)) (u1 : P.underlying f1.type = some (.int .i64)) (u2 : P.underlying f2.type = some .bool) (c0 : P.cellsOf f0.type = 1) (c1 : P.cellsOf f1.type = 1) (c2 : P.cellsOf f2.type = 1) (hc : P.cellsOf t = 3)
    (h : DataW.trod enc P w 0 (fun _ => true) held fuel t cs = some x) : ∃ u : Tg, cs = [.int .i64 u.cls, .int .i64 u.num, .bool u.made] := by
  obtain ⟨y0, y1, y2, n', _, hlen, t0, t1, t2⟩ := Deep.trod_struct3 he h
  rw [o0, c0] at t0
  rw [o1, c1] at t1
  rw [o2, c2] at t2
  rw [hc] at hlen
  match cs, hlen with
  | [p, q, r], _ =>
    obtain ⟨x, e0, _, _⟩ := DataW.trod_int u0 t0
    obtain ⟨y, e1, _, _⟩ := DataW.trod_int u1 t1
    obtain ⟨z, e2, _⟩ := DataW.trod_bool u2 t2
    simp at e0 e1 e2
    subst e0 e1 e2
    exact ⟨⟨x, y, z⟩, rfl⟩
theorem trod_acts8 {t e tr tu : TypeId} {f0 f1 f2 f3 g0 g1 g2 : Field} {fuel : Nat} {cs : List Value} {x : DataW H × List MemPlace} (ht : P.underlying t = some (.slice e)) (he : P.underlying e = some (.struct #[f0, f1, f2, f3]))
    (o0 : f0.offset = 0) (o1 : f1.offset = 1) (o2 : f2.offset = 2) (o3 : f3.offset = 5) (hc : P.cellsOf e = 6)
    (u0 : P.underlying f0.type = some (.int .i64)) (c0 : P.cellsOf f0.type = 1) (u3 : P.underlying f3.type = some (.int .i64)) (c3 : P.cellsOf f3.type = 1)
    (u1 : P.underlying f1.type = some (.slice tr)) (c1 : P.cellsOf f1.type = 1) (ur : P.underlying tr = some (.slice tu)) (cr : P.cellsOf tr = 1) (uu : P.underlying tu = some (.int .u8)) (cu : P.cellsOf tu = 1)
    (u2 : P.underlying f2.type = some (.struct #[g0, g1, g2])) (c2 : P.cellsOf f2.type = 3) (p0 : g0.offset = 0) (p1 : g1.offset = 1) (p2 : g2.offset = 2)
    (v0 : P.underlying g0.type = some (.int .i64)) (v1 : P.underlying g1.type = some (.int .i64)) (v2 : P.underlying g2.type = some .bool) (d0 : P.cellsOf g0.type = 1) (d1 : P.cellsOf g1.type = 1) (d2 : P.cellsOf g2.type = 1)
    (h : DataW.trod enc P w 0 (fun _ => true) held fuel t cs = some x) : ∃ A n c xs, cs = [.slice A n c] ∧ Acts w A n xs := by
  rcases Deep.open_slice ht h with ⟨hcs, _⟩ | ⟨a, len, cap, m, n, D, Pl, hcs, _, hl, hm, hmm, _, hel⟩
  · exact ⟨none, 0, 0, [], hcs, rfl, fun i t hi => by simp at hi⟩
  · simp only [if_true] at hmm
    rw [hc] at hel
    have key : ∀ i, i < len → ∃ (b : ActL) (Ai : Option Addr) (ni ci : Nat), (w.cell? ((a.add (i * 6)).add 0) = some (.int .i64 b.kind) ∧ w.cell? ((a.add (i * 6)).add 1) = some (.slice Ai ni ci) ∧ w.cell? ((a.add (i * 6)).add 2) = some (.int .i64 b.t.cls) ∧
        w.cell? ((a.add (i * 6)).add 3) = some (.int .i64 b.t.num) ∧ w.cell? ((a.add (i * 6)).add 4) = some (.bool b.t.made) ∧ w.cell? ((a.add (i * 6)).add 5) = some (.int .i64 b.x)) ∧ Bss w Ai ni b.ls ∧ ni ≤ ci := by
      intro j hj
      obtain ⟨cs', hcs', htr⟩ := hel j (by omega)
      obtain ⟨_, hlen, hcells⟩ := World.cells?_some hcs'
      obtain ⟨y0, y1, y2, y3, n', _, _, t0, t1, t2, t3⟩ := trod_struct4 he htr
      rw [o0, c0] at t0
      rw [o1, c1] at t1
      rw [o2, c2] at t2
      rw [o3, c3] at t3
      match cs', hlen with
      | [q0, q1, q2, q3, q4, q5], _ =>
        obtain ⟨x, e0, _, _⟩ := DataW.trod_int u0 t0
        obtain ⟨z, e3, _, _⟩ := DataW.trod_int u3 t3
        obtain ⟨Ai, ni, ci, ls, e1, hb, hle⟩ := trod_bytess u1 ur uu cu cr t1
        obtain ⟨tg, e2⟩ := trod_tag1 u2 p0 p1 p2 v0 v1 v2 d0 d1 d2 c2 t2
        simp at e0 e1 e2 e3
        obtain ⟨e2a, e2b, e2c⟩ := e2
        subst e0 e1 e2a e2b e2c e3
        have h0 := hcells 0 (by omega)
        have h1 := hcells 1 (by omega)
        have h2 := hcells 2 (by omega)
        have h3 := hcells 3 (by omega)
        have h4 := hcells 4 (by omega)
        have h5 := hcells 5 (by omega)
        simp at h0 h1 h2 h3 h4 h5
        exact ⟨⟨x, ls, tg, z⟩, Ai, ni, ci, ⟨h0, h1, h2, h3, h4, h5⟩, hb, hle⟩
    have key2 : ∀ i, i < len → ∃ b : ActL, ∃ (Ai : Option Addr) (ni ci : Nat), (w.cell? ((a.add (i * 6)).add 0) = some (.int .i64 b.kind) ∧ w.cell? ((a.add (i * 6)).add 1) = some (.slice Ai ni ci) ∧ w.cell? ((a.add (i * 6)).add 2) = some (.int .i64 b.t.cls) ∧
        w.cell? ((a.add (i * 6)).add 3) = some (.int .i64 b.t.num) ∧ w.cell? ((a.add (i * 6)).add 4) = some (.bool b.t.made) ∧ w.cell? ((a.add (i * 6)).add 5) = some (.int .i64 b.x)) ∧ Bss w Ai ni b.ls ∧ ni ≤ ci := key
    haveI : Inhabited ActL := ⟨⟨0, [], tg0, 0⟩⟩
    obtain ⟨f, hf⟩ := Deep.choose_lt key2
    obtain ⟨b, o, sp⟩ := a
    refine ⟨some ⟨b, o, sp⟩, len, cap, (List.range len).map f, hcs, by simp, fun i t hi => ?_⟩
    rw [List.getElem?_map] at hi
    obtain ⟨j, hj, rfl⟩ := Option.map_eq_some_iff.1 hi
    obtain ⟨h2, h3⟩ := List.getElem?_eq_some_iff.1 hj
    simp at h2 h3
    subst h3
    obtain ⟨Ai, ni, ci, ⟨k0, k1, k2, k3, k4, k5⟩, kb, kl⟩ := hf i h2
    have hsp : sp = none := by
      obtain ⟨_, _, _, ⟨z0, _⟩, _⟩ := hf 0 (by omega)
      have := World.cell?_spot z0
      simpa [Addr.add] using this
    subst hsp
    simp only [Addr.add_none, Nat.add_zero] at k0 k1 k2 k3 k4 k5
    exact ⟨b, o, Ai, ni, ci, rfl, ⟨k0, k1, k2, k3, k4, k5⟩, kb, kl⟩
end
end Go.Proofs.Ytbhfaakhcnkegaa

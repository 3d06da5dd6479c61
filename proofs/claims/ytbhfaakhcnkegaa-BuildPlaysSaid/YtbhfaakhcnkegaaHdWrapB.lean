/-
  The contracts of the project's head: Wrap.
-/
import Derived.Test.YtbhfaakhcnkegaaHdWrap
import Derived.Deep.RegionWith
namespace Go.Proofs.Ytbhfaakhcnkegaa
open Go.RowKit
set_option linter.unusedVariables false
set_option linter.unusedSimpArgs false
set_option maxRecDepth 4000

/-- The slices vs read as the rows ls. -/
def Vss (w : World) (vs : List Value) (ls : List (List UInt8)) : Prop :=
  vs.length = ls.length ∧ ∀ (i : Nat) (l : List UInt8), ls[i]? = some l → ∃ A n c, vs[i]? = some (Value.slice A n c) ∧ Bs w A n l ∧ n ≤ c
theorem Vss.nil (w : World) : Vss w [] [] := ⟨rfl, fun i l h => by simp at h⟩
theorem Vss.cons {w : World} {A : Option Addr} {n c : Nat} {l : List UInt8} {vs : List Value} {ls : List (List UInt8)} (h : Bs w A n l) (hc : n ≤ c) (k : Vss w vs ls) : Vss w (.slice A n c :: vs) (l :: ls) :=
  ⟨by simp [k.1], fun i x hx => by
    match i, hx with
    | 0, hx => cases hx; exact ⟨A, n, c, rfl, h, hc⟩
    | i + 1, hx => exact k.2 i x hx⟩
theorem Vss.keep {w w' : World} {vs : List Value} {ls : List (List UInt8)} (h : Vss w vs ls) (hk : ∀ A n l, Bs w A n l → Bs w' A n l) : Vss w' vs ls :=
  ⟨h.1, fun i l hl => let ⟨A, n, c, e, hb, hc⟩ := h.2 i l hl; ⟨A, n, c, e, hk _ _ _ hb, hc⟩⟩
theorem Vss.one {w : World} {vs : List Value} {ls : List (List UInt8)} (h : Vss w vs ls) : ∀ u ∈ vs, u.oneCell' = true := by
  intro u hu
  obtain ⟨i, hi, rfl⟩ := List.getElem_of_mem hu
  have hl : i < ls.length := by have := h.1; omega
  obtain ⟨A, n, c, e, _⟩ := h.2 i _ (List.getElem?_eq_getElem hl)
  rw [List.getElem?_eq_getElem hi] at e
  rw [Option.some.inj e]; rfl
theorem Vss.append {w : World} {vs us : List Value} {ls ks : List (List UInt8)} (h : Vss w vs ls) (k : Vss w us ks) : Vss w (vs ++ us) (ls ++ ks) := by
  refine ⟨by simp [h.1, k.1], fun i l hl => ?_⟩
  have e := h.1
  by_cases hi : i < ls.length
  · rw [List.getElem?_append_left hi] at hl
    obtain ⟨A, n, c, e', r⟩ := h.2 i l hl
    exact ⟨A, n, c, by rw [List.getElem?_append_left (by omega)]; exact e', r⟩
  · rw [List.getElem?_append_right (by omega)] at hl
    obtain ⟨A, n, c, e', r⟩ := k.2 _ l hl
    exact ⟨A, n, c, by rw [List.getElem?_append_right (by omega), e]; exact e', r⟩

theorem Bss.vals {w : World} {A : Option Addr} {n : Nat} {ls : List (List UInt8)} (h : Bss w A n ls) :
    ∃ vs : List Value, vs.length = n ∧ (∀ j u, vs[j]? = some u → ∃ b o, A = some ⟨b, o, none⟩ ∧ w.cell? ⟨b, o + j, none⟩ = some u) ∧ Vss w vs ls := by
  have key : ∀ i, i < n → ∃ v : Value, (∃ b o, A = some ⟨b, o, none⟩ ∧ w.cell? ⟨b, o + i, none⟩ = some v) ∧ ∃ Ai ni ci, v = .slice Ai ni ci ∧ Bs w Ai ni (rowL ls i) ∧ ni ≤ ci := by
    intro i hi
    obtain ⟨b, o, Ai, ni, ci, hA, hc, hbs, hle⟩ := h.at_ hi
    exact ⟨_, ⟨b, o, hA, hc⟩, Ai, ni, ci, rfl, hbs, hle⟩
  obtain ⟨f, hf⟩ := Deep.choose_lt key
  refine ⟨(List.range n).map f, by simp, fun j u hu => ?_, by simp [h.len], fun i l hl => ?_⟩
  · rw [List.getElem?_map] at hu
    obtain ⟨x, hx, rfl⟩ := Option.map_eq_some_iff.1 hu
    obtain ⟨h2, h3⟩ := List.getElem?_eq_some_iff.1 hx
    simp at h2 h3
    subst h3
    exact (hf j h2).1
  · have hi : i < n := by have := h.len; have := (List.getElem?_eq_some_iff.1 hl).1; omega
    obtain ⟨_, Ai, ni, ci, e, hbs, hle⟩ := hf i hi
    refine ⟨Ai, ni, ci, ?_, ?_, hle⟩
    · rw [List.getElem?_map, List.getElem?_range hi]; simp [e]
    · have : rowL ls i = l := by simp [rowL, List.getD, hl]
      rw [← this]; exact hbs

/-- An own row of slices reads as rows. -/
theorem bss_own {w : World} {base k : Nat} {e : TypeId} {v : Value} {vs : List Value} {ls : List (List UInt8)} (h : w.ownsRow base e 1 v k vs) (hk : Vss w vs ls) : ∃ A c, v = .slice A k c ∧ k ≤ c ∧ Bss w A k ls := by
  have hcells := @World.ownsRow.cells _ _ _ _ _ _ _ h
  have hl := h.1
  rcases h.2 with ⟨rfl, h0⟩ | ⟨g, cap, cur, rfl, _, _, hle, _, _, _⟩
  · subst h0
    have : ls = [] := List.eq_nil_of_length_eq_zero (by have := hk.1; omega)
    subst this
    exact ⟨none, 0, rfl, Nat.le_refl _, Bss.nil _ _⟩
  · refine ⟨_, cap, rfl, hle, by have := hk.1; omega, fun i l hl' => ?_⟩
    obtain ⟨Ai, ni, ci, hvi, hbs, hc⟩ := hk.2 i l hl'
    have := hcells (g := g) rfl i _ hvi
    rw [Addr.add_none] at this
    exact ⟨g, 0, Ai, ni, ci, rfl, this, hbs, hc⟩

/-- append(own row of slices, rows..). -/
theorem run_appendS {P : Program} {w : World} (base : Nat) (t ty e : TypeId) (i : TypeInfo) (z : Value) (ht : P.underlying t = some (.slice e)) (hi : P.info? e = some i) (hz : i.zero = some z)
    (hsize : i.size = 1) (hby : i.bytes = 24) (hzs : z.cells.size = 1) {v : Value} {k : Nat} {vs : List Value} (hown : w.ownsRow base e 1 v k vs)
    {A : Option Addr} {m c : Nat} {us : List Value} (hul : us.length = m) (hus : ∀ j u, us[j]? = some u → ∃ b o, A = some ⟨b, o, none⟩ ∧ w.cell? ⟨b, o + j, none⟩ = some u) (h1 : ∀ u ∈ us, u.oneCell' = true)
    (hb : (k + m) * 24 ≤ 140737488355328) (hbase : base ≤ w.heap.size) :
    ∃ v' w', (Builtin.append_ #[t, t] ty #[v, .slice A m c]).run P w = .ok v' w' ∧ w'.ownsRow base e 1 v' (k + m) (vs ++ us) ∧ w.grownBy w' v.ownBlock := by
  subst hul
  have hml : k + us.length ≤ maxLen := by unfold maxLen; omega
  rcases A with _ | ad
  · have hn : us = [] := by
      rcases us with _ | ⟨x, r⟩
      · rfl
      · obtain ⟨_, _, e, _⟩ := hus 0 x rfl; cases e
    subst hn
    refine ⟨v, w, ?_, by simpa using hown, World.grownBy.refl w _⟩
    rcases hown.2 with ⟨rfl, h0⟩ | ⟨g, cap, cur, rfl, _, _, hnc, _⟩
    · simp [Builtin.append_, run_underlying ht, sizeOf, typeInfo, hi, Builtin.lenOf, Builtin.firstCells]
    · simp [Builtin.append_, run_underlying ht, sizeOf, typeInfo, hi, Builtin.lenOf, Builtin.firstCells, hnc, storeCells]
  · have hcells : ∀ j u, us[j]? = some u → w.cell? (ad.add j) = some u := by
      intro j u hu
      obtain ⟨b, o, e', hc⟩ := hus j u hu
      cases e'
      rw [Addr.add_none]; exact hc
    obtain ⟨v', w', hrun, h2, h3, _⟩ := run_append_own_at (P := P) w base t ty e i z 1 24 ht hi hz hsize hby hzs (by omega) v k vs hown ad us.length c us (by simp) hcells h1 hml hb hbase
    exact ⟨v', w', hrun, h2, h3⟩

theorem wpList_appendS {P : Program} {w : World} {ops : Array Oper} {rest : List Oper} {o : Oper} {a : Act} {Q : Exit → Act → World → Prop} (hgd : o.guard = none) (s x : Operand) (t : TypeId)
    (ho : o.op = .call { callee := .builtin .append, args := #[s, x], argTypes := #[t, t] })
    (base : Nat) (e : TypeId) (i : TypeInfo) (z : Value) (ht : P.underlying t = some (.slice e)) (hi : P.info? e = some i) (hz : i.zero = some z)
    (hsize : i.size = 1) (hby : i.bytes = 24) (hzs : z.cells.size = 1) (v : Value) (k : Nat) (vs : List Value) (hs : a.eval s = v) (hown : w.ownsRow base e 1 v k vs)
    (A : Option Addr) (m c : Nat) (us : List Value) (hx : a.eval x = .slice A m c) (hul : us.length = m) (hus : ∀ j u, us[j]? = some u → ∃ b o, A = some ⟨b, o, none⟩ ∧ w.cell? ⟨b, o + j, none⟩ = some u) (h1 : ∀ u ∈ us, u.oneCell' = true)
    (hb : (k + m) * 24 ≤ 140737488355328) (hbase : base ≤ w.heap.size)
    (h : ∀ v' w', w'.ownsRow base e 1 v' (k + m) (vs ++ us) → w.grownBy w' v.ownBlock → wpList P ops Q rest (a.put o.dst v') w') : wpList P ops Q (o :: rest) a w :=
  wpList_plain hgd fun _ hK => by
    obtain ⟨v', w', hrun, h2, h3⟩ := run_appendS (P := P) base t o.type e i z ht hi hz hsize hby hzs hown (c := c) hul hus h1 hb hbase
    unfold Oper.wp execOp
    simp only [ho, resolve, invoke, builtin, Sem.run_bind, Sem.run_pure, Result.andThen_ok, List.map_toArray, List.map_cons, List.map_nil, hs, hx, hrun]
    exact hK _ _ (h v' w' h2 h3)

set_option maxHeartbeats 1600000 in
theorem hdWrap (t : Tg) (A : Option Addr) (n c : Nat) (ls : List (List UInt8)) (w : World) (ht : t.rightB = true) (h : Bss w A n ls) (hn : n ≤ 1099511627) (htot : ls.flatten.length ≤ 16777216) (hsh : Short 1099511627776 ls) :
    Calls Try.prog 54 #[t.v, .slice A n c] w (NewBs2 w (wrapB t ls.flatten)) := by
  obtain ⟨i1, hi1, hz0, hz1, hz2⟩ := info_parts sl_info
  have hmin : min ls.flatten.length 16777217 = ls.flatten.length := by omega
  have hT := Lib.hid (fun W hW => hdTotal A n c ls W hW (by omega) hsh)
  rw [hmin] at hT
  have hE := Lib.hid (fun W => hdEncode t ls.flatten.length W (by unfold encE; rw [if_neg (by simp [ht]), if_neg (by omega), if_neg (by omega)]))
  have hWR : Hid (wrapB t ls.flatten = tagB t ++ lenB ls.flatten.length ++ ls.flatten) := rfl
  have hl1 := tagB_len t
  have hl2 := lenB_len ls.flatten.length
  obtain ⟨T, hTT⟩ : ∃ T, T = ls.flatten.length := ⟨_, rfl⟩
  have HTT := Lib.hid hTT
  rw [← hTT] at hT hE hWR hl2
  clear hTT hmin
  obtain ⟨tc, tn, tm⟩ := t
  unfold Tg.v at *
  have hW1 := (h.below (below_alloc1 w (blk3 tc tn tm))).qt ((Qt.refl _).drew)
  go_enter Try.func54, Try.ntmps54
  go_wp2
  go_region_with (first
    | (go_at_call 72; refine (hT.out _ hW1).mono ?_; rintro e w1 ⟨rfl, rfl⟩)
    | (go_at_call 71; refine (hE.out _).mono ?_; rintro e w2 ⟨A1, n1, c1, A2, n2, c2, rfl, hb1, hb2, hc1, hc2, hB⟩))
  all_goals
    have hB1 : Below w.heap.size w w2 := (below_alloc1 w (blk3 tc tn tm)).trans (Below.mono ((Below.refl _ _).drew.trans hB) (by simp))
    have hown := World.ownsRow_lit (base := w.heap.size) (e := 41) (size := 1) w2 #[.slice A1 n1 c1, .slice A2 n2 c2] 2 hB1.size (by unfold maxLen; omega) (by simp)
    have hb3 := below_alloc1 w2 (.cells #[.slice A1 n1 c1, .slice A2 n2 c2] 41)
    have hB2 := hB1.alloc hB1.size (.cells #[.slice A1 n1 c1, .slice A2 n2 c2] 41)
    obtain ⟨us, hul, hus, hvs⟩ := (h.below hB2).vals
    have hV := Vss.cons (hb1.below hb3) hc1 (Vss.cons (hb2.below hb3) hc2 hvs)
    have hone := hvs.one
    have hnb : ∀ o (x : UInt8), (w2.alloc (.cells #[.slice A1 n1 c1, .slice A2 n2 c2] 41)).cell? ⟨w2.heap.size, o, none⟩ ≠ some (.int .u8 (x.toNat : Int)) := by
      intro o x
      rw [blk_cell (heap_alloc_new w2 (.cells #[.slice A1 n1 c1, .slice A2 n2 c2] 41))]
      match o with
      | 0 => simp
      | 1 => simp
      | o + 2 => simp
    have HNB := Lib.hid hnb
    have HUS := Lib.hid hus
    have HONE := Lib.hid hone
    have HOWN := Lib.hid hown
    have hfl : Hid (([tagB ⟨tc, tn, tm⟩, lenB (T : Int)] ++ ls).flatten = tagB ⟨tc, tn, tm⟩ ++ lenB (T : Int) ++ ls.flatten) := by unfold Hid; simp
    have hbnd : Hid (([tagB ⟨tc, tn, tm⟩, lenB (T : Int)] ++ ls).flatten.length ≤ 1099511627776) := by
      unfold Hid; rw [hfl.out, List.length_append, List.length_append]; omega
    clear hnb hus hone hvs hb1 hb2 hc1 hc2 hown hE hT hW1 hB
    go_wp2_with (at_builtin; refine wpList_appendS rfl _ _ 27 rfl w.heap.size 41 i1 (.slice none 0 0) Try.underlying27 hi1 hz0 hz1 hz2 rfl _ 2 [.slice A1 n1 c1, .slice A2 n2 c2] rfl HOWN.out A n c us rfl hul HUS.out HONE.out ?ab1 ?ab2 ?_)
    case ab1 => omega
    case ab2 => have := hB1.size; first | omega | (simp; omega)
    intro v' w4 hown4 hg4
    have hg5 : Only w2.heap.size (w2.alloc (.cells #[.slice A1 n1 c1, .slice A2 n2 c2] 41)) w4 := hg4
    have hV4 : Vss w4 _ ([tagB ⟨tc, tn, tm⟩, lenB (T : Int)] ++ ls) := hV.keep fun A n l hb => hb.only hg5 HNB.out
    obtain ⟨A4, c4, rfl, hc4, hBss4⟩ := bss_own hown4 hV4
    have hB4 : Below w.heap.size w w4 := Only.below hg5 hB2 hB1.size hB2.size
    clear hV hV4 hg4 hg5 HOWN hown4 hB2 hb3
    go_wp2_with fail
    refine (octJoin _ _ _ _ _ hBss4 (by omega) hbnd.out).mono ?_
    rintro e w5 ⟨A5, m5, c5, rfl, hob5, hB5⟩
    rw [hfl.out] at hob5
    have hob6 := hob5.mono (base' := w.heap.size) hB4.size
    have hB6 : Below w.heap.size w w5 := hB4.trans (Below.mono hB5 hB4.size)
    clear hob5 hB5 hBss4
    go_wp2
    go_ret2
    rw [hWR.out]
    exact ⟨A5, m5, c5, rfl, hob6, hB6⟩

set_option maxHeartbeats 1600000 in
theorem hdWrapNo (t : Tg) (A : Option Addr) (n c : Nat) (ls : List (List UInt8)) (w : World) (h : Bss w A n ls) (hn : n ≤ 1099511627) (hsh : Short 1099511627776 ls) (hno : encE t ((min ls.flatten.length 16777217 : Nat) : Int) ≠ 0) :
    Calls Try.prog 54 #[t.v, .slice A n c] w fun e w' => e = .returned (.tuple #[.slice none 0 0, .int .i64 (encE t ((min ls.flatten.length 16777217 : Nat) : Int))]) ∧ Below w.heap.size w w' := by
  have hT := Lib.hid (fun W hW => hdTotal A n c ls W hW (by omega) hsh)
  have hE := Lib.hid (fun W => hdEncodeNo t ((min ls.flatten.length 16777217 : Nat) : Int) W hno)
  obtain ⟨T, hTT⟩ : ∃ T, T = min ls.flatten.length 16777217 := ⟨_, rfl⟩
  rw [← hTT] at hT hE hno ⊢
  clear hTT
  have e1 : (encE t T != 0) = true := by simp; exact hno
  have e2 : (encE t T == 0) = false := by simp; exact hno
  generalize encE t T = E at *
  obtain ⟨tc, tn, tm⟩ := t
  unfold Tg.v at *
  have hW1 := (h.below (below_alloc1 w (blk3 tc tn tm))).qt ((Qt.refl _).drew)
  go_enter Try.func54, Try.ntmps54
  go_wp2
  go_region_with (first
    | (go_at_call 72; refine (hT.out _ hW1).mono ?_; rintro e w1 ⟨rfl, rfl⟩)
    | (go_at_call 71; refine (hE.out _).mono ?_; rintro e w2 ⟨rfl, hB⟩))
  all_goals
    have hB1 : Below w.heap.size w w2 := (below_alloc1 w (blk3 tc tn tm)).trans (Below.mono ((Below.refl _ _).drew.trans hB) (by simp))
    clear hB hE hT hW1
    go_wp2
    go_ret2
    exact ⟨rfl, hB1⟩

end Go.Proofs.Ytbhfaakhcnkegaa

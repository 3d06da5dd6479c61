/-
  The law BuildSets: its rows.
-/
import Derived.Test.YtpcpaopnofakhaaYc
import Derived.Deep.CutBlock
namespace Go.Proofs.Ytpcpaopnofakhaa
open Go.RowKit
set_option linter.unusedVariables false
set_option linter.unusedSimpArgs false
set_option maxRecDepth 4000

theorem row_belowS {W W' : World} {B n : Nat} {v : Value} {cs : List Value} (h : W.ownsRow B 41 1 v n cs) (hb : Below W.heap.size W W') : W'.ownsRow B 41 1 v n cs :=
  h.kept (row := none) ⟨hb.os, hb.tape, hb.output, hb.size, fun i hi _ => hb.block i hi⟩ (by cases hv : v.ownBlock <;> simp)
theorem step_appendS {P : Program} {w : World} {ops : Array Oper} {o : Oper} {a : Act} {K : Act → World → Prop} {Q : Exit → Act → World → Prop} {E : Prop} (hgd : o.guard = none) (s x : Operand) (t : TypeId)
    (ho : o.op = .call { callee := .builtin .append, args := #[s, x], argTypes := #[t, t] })
    (base : Nat) (e : TypeId) (i : TypeInfo) (z : Value) (ht : P.underlying t = some (.slice e)) (hi : P.info? e = some i) (hz : i.zero = some z)
    (hsize : i.size = 1) (hby : i.bytes = 24) (hzs : z.cells.size = 1) (v : Value) (k : Nat) (vs : List Value) (hs : a.eval s = v) (hown : w.ownsRow base e 1 v k vs)
    (A : Option Addr) (m c : Nat) (us : List Value) (hx : a.eval x = .slice A m c) (hul : us.length = m) (hus : ∀ j u, us[j]? = some u → ∃ b o, A = some ⟨b, o, none⟩ ∧ w.cell? ⟨b, o + j, none⟩ = some u) (h1 : ∀ u ∈ us, u.oneCell' = true)
    (hb : (k + m) * 24 ≤ 140737488355328) (hbase : base ≤ w.heap.size)
    (h : ∀ v' w', w'.ownsRow base e 1 v' (k + m) (vs ++ us) → w.grownBy w' v.ownBlock → K (a.put o.dst v') w') :
    if Region.wanted o (yielded ops a.tmps) = true then Oper.wp P o a w K Q else E := by
  have hw : Region.wanted o (yielded ops a.tmps) = true := by simp [Region.wanted, hgd]
  rw [if_pos hw]
  obtain ⟨v', w', hrun, h2, h3⟩ := run_appendS (P := P) base t o.type e i z ht hi hz hsize hby hzs hown (c := c) hul hus h1 hb hbase
  unfold Oper.wp execOp
  simp only [ho, resolve, invoke, builtin, Sem.run_bind, Sem.run_pure, Result.andThen_ok, List.map_toArray, List.map_cons, List.map_nil, hs, hx, hrun]
  exact h v' w' h2 h3
theorem cutT (A : Option Addr) (n c k : Nat) (hk : k ≤ n) (hc : n ≤ c) : ∀ (W : World), (Instr.slice 27 (.slice A n c) none (some (.int .i64 (k : Int))) none).run Try.prog W = .ok (.slice A k c) W := by
  intro W
  go_simp
  have : k ≤ c := by omega
  cases A <;> simp [sliced, this] <;> omega
theorem row_at {W : World} {B n : Nat} {A : Option Addr} {c : Nat} {vs : List Value} (h : W.ownsRow B 41 1 (.slice A n c) n vs) : ∀ j u, vs[j]? = some u → ∃ g, A = some ⟨g, 0, none⟩ ∧ W.cell? ⟨g, j, none⟩ = some u := by
  intro j u hu
  have hcells := @World.ownsRow.cells _ _ _ _ _ _ _ h
  rcases h.2 with ⟨he, h0⟩ | ⟨g, cap, cur, he, _⟩
  · have hv0 : vs = [] := List.eq_nil_of_length_eq_zero (by have := h.1; omega)
    rw [hv0] at hu
    simp at hu
  · simp at he
    obtain ⟨rfl, _⟩ := he
    have := hcells (g := g) rfl j u hu
    rw [Addr.add_none, Nat.zero_add] at this
    exact ⟨g, rfl, this⟩
/-- An octet string's whole. -/
def os4 (l : List UInt8) : List UInt8 := wrapB ⟨0, 4, false⟩ l
theorem quietQ {P : Program} {f : FuncId} {args : Array Value} {w : World} {n : Nat} {v : Value}
    (h : Calls P f args (w.drewN n) fun e w' => e = .returned v ∧ Qt (w.drewN n) w') : Calls P f args (w.drewN n) fun e w'' => e = .returned v ∧ ∃ m, w'' = w.drewN m :=
  h.mono fun _ _ ⟨he, m, hm⟩ => ⟨he, n + m, by rw [hm, World.drewN_drewN]⟩
/-- The rows so far. -/
def RowS (w : World) (ms : List (List UInt8)) (k : Nat) (v : Value) (W : World) : Prop := ∃ vs, W.ownsRow w.heap.size 41 1 v k vs ∧ Oss W w.heap.size vs (ms.take k) ∧ Below w.heap.size w W

set_option maxHeartbeats 6400000 in
theorem lawSets (A : Option Addr) (n0 c : Nat) (ls0 : List (List UInt8)) (at0 : Int) (w : World) (h : Bss w A n0 ls0) (hat : -9223372036854775808 ≤ at0 ∧ at0 ≤ 9223372036854775807) :
    Calls Try.prog 6 #[.slice A n0 c, .int .i64 at0] w fun e w' => e = .returned (.bool true) ∧ Below w.heap.size w w' := by
  obtain ⟨i1, hi1, hz0, hz1, hz2⟩ := info_parts sl_info
  have hF := Lib.hid (lw8Few A n0 c ls0 w h)
  have hss := fewL_short ls0 (min n0 10)
  have hsl := fewL_len (ls := ls0) (k := min n0 10) (by have := h.len; omega)
  obtain ⟨N, hN⟩ : ∃ N, N = min n0 10 := ⟨_, rfl⟩
  have hF2 : Hid (∀ e w', FewOk w n0 ls0 e w' → ∃ v vs, e = .returned v ∧ w'.ownsRow w.heap.size 41 1 v N vs ∧ Vss w vs (fewL ls0 N) ∧ Below w.heap.size w w') := by
    rw [hN]; exact fun e w' h => h
  rw [← hN] at hss hsl
  have hNb : N ≤ 10 := by omega
  generalize fewL ls0 N = ls at *
  have KF : Hid (Calls Try.prog 10 #[.slice A n0 c] w (NL w N ls)) := by
    refine hF.out.mono ?_
    intro e w1 hh
    obtain ⟨v, vs, rfl, hrow, hvs, hb1⟩ := hF2.out _ _ hh
    obtain ⟨A1, c1, rfl, _, hbss⟩ := bss_own hrow (hvs.keep fun A n l hb => hb.below hb1)
    exact ⟨A1, c1, rfl, hbss, hb1⟩
  have K4 : Hid (∀ W, Calls Try.prog 32 #[.int .i64 4] W fun e w' => e = .returned (.agg #[.int .i64 0, .int .i64 4, .bool false]) ∧ Below W.heap.size W w') := fun W => refOf 4 W
  have KW : Hid (∀ X y z l W, Bs W X y l → y ≤ 16777216 → l.length ≤ 100 → Calls Try.prog 31 #[.agg #[.int .i64 0, .int .i64 4, .bool false], .slice X y z] W fun e w' => ∃ A n c, e = .returned (.slice A n c) ∧ Ob w' W.heap.size 5 (.slice A n c) (os4 l) ∧ Below W.heap.size W w') := fun X y z l W hb hy hl => (refWrap ⟨0, 4, false⟩ X y z l W ((Tg.rightB_iff _).1 (by decide)) hb (by omega)).mono fun _ _ ⟨A, n, c, he, ho, hb⟩ => ⟨A, n, c, he, ho, hb⟩
  obtain ⟨ms, hms⟩ : ∃ ms, ms = ls.map os4 := ⟨_, rfl⟩
  have hrow9 : ∀ x ∈ ms, x.length ≤ 109 := by
    intro x hx
    rw [hms] at hx
    obtain ⟨l, hl, rfl⟩ := List.mem_map.1 hx
    have h1 := hss l hl
    have h2 := wrapB_le ⟨0, 4, false⟩ l
    unfold os4; omega
  have hmsl : ms.length = N := by rw [hms, List.length_map]; exact hsl
  have hmsf : ms.flatten.length ≤ 1090 := by
    have := flat_le (N := 109) ms hrow9
    rw [hmsl] at this; omega
  have hgood : ∀ x ∈ ms, ∃ t l, x = wrapB t l ∧ t.right ∧ l.length ≤ 16777216 := by
    intro x hx
    rw [hms] at hx
    obtain ⟨l, hl, rfl⟩ := List.mem_map.1 hx
    exact ⟨⟨0, 4, false⟩, l, rfl, (Tg.rightB_iff _).1 (by decide), by have := hss l hl; omega⟩
  have hwf : whs ms.flatten 0 = (ms, 0) := whs_flat0 ms hgood
  have hwo : whs (ordO ms).flatten 0 = (ordO ms, 0) := whs_flat0 _ (fun x hx => hgood x ((ordO_perm ms).mem_iff.1 hx))
  have hof : (ordO ms).flatten.length ≤ 1090 := by rw [flatten_perm_length (ordO_perm ms)]; exact hmsf
  have hol : (ordO ms).length = N := by rw [(ordO_perm ms).length_eq]; exact hmsl
  have KS : Hid (∀ Ax nn cx xs W, Bss W Ax nn xs → xs.Perm ms → Calls Try.prog 25 #[.slice Ax nn cx] W (N2 W (wrapB ⟨0, 17, true⟩ (ordO ms).flatten) 0)) := by
    intro Ax nn cx xs W hb hp
    have hl := hb.len
    have hl2 := hp.length_eq
    have hf := flatten_perm_length hp
    have := (bdSetOf Ax nn cx xs W hb (by omega) (by omega) (short_of (fun l hl => by have := hrow9 l (hp.mem_iff.1 hl); omega))).mono fun _ _ => n2_of
    rw [ordO_of_perm hp] at this
    exact this
  have hsal : (wrapB ⟨0, 17, true⟩ (ordO ms).flatten).length ≤ 2000 := by have := wrapB_le ⟨0, 17, true⟩ (ordO ms).flatten; omega
  have K17 : Hid (∀ W, Calls Try.prog 42 #[.int .i64 17] W fun e w' => e = .returned (.agg #[.int .i64 0, .int .i64 17, .bool true]) ∧ Below W.heap.size W w') := fun W => hdOf 17 W
  have KAl : Hid (∀ X y z W, Bs W X y (wrapB ⟨0, 17, true⟩ (ordO ms).flatten) → Calls Try.prog 41 #[.slice X y z, .agg #[.int .i64 0, .int .i64 17, .bool true]] W fun e w' => (∃ g s, e = .returned (.tuple #[.pointer (some ⟨g, 0, none⟩), .int .i64 0]) ∧ Cur w' g s (ordO ms).flatten 0 ∧ W.heap.size ≤ g) ∧ Below W.heap.size W w') := fun X y z W hb => nest_alone X y z (ordO ms).flatten ⟨0, 17, true⟩ W hb (by decide) (by omega)
  have KSo : Hid (∀ (w W : World) g s, Cur W g s (ordO ms).flatten 0 → w.heap.size ≤ g → Below w.heap.size w W → Calls Try.prog 36 #[.pointer (some ⟨g, 0, none⟩)] W fun e w' => e = .returned (.tuple #[.bool true, .int .i64 0]) ∧ Cur w' g s (ordO ms).flatten 0 ∧ Below w.heap.size w w') := fun w W g s h hg hb => set_sorted g s (ordO ms) h hwo (rises_ord ms) (by omega) hg hb
  have KWh : Hid (∀ (w W : World) g s, Cur W g s (ordO ms).flatten 0 → w.heap.size ≤ g → Below w.heap.size w W → Calls Try.prog 38 #[.pointer (some ⟨g, 0, none⟩)] W fun e w' => (∃ A c, e = .returned (.tuple #[.slice A N c, .int .i64 0]) ∧ Bss w' A N (ordO ms)) ∧ Below w.heap.size w w') := fun w W g s h hg hb => by
    have := set_wholes (w := w) g s (ordO ms) h hwo (by omega) hg hb
    rw [hol] at this; exact this
  have KSh : Hid (∀ (w W : World) S, StS w S ⟨tg0, true, ms.flatten⟩ [fr0] W → Calls Try.prog 15 #[.pointer (some ⟨S, 0, none⟩)] W fun e w' => e = .returned (.tuple #[]) ∧ StS w S ⟨tg0, false, wrapB ⟨0, 17, true⟩ (ordO ms).flatten⟩ [] w') := fun w W S h => set_shut h hwf (by omega) (by omega)
  have KBy : Hid (∀ (w W : World) S, StS w S ⟨tg0, false, wrapB ⟨0, 17, true⟩ (ordO ms).flatten⟩ [] W → Calls Try.prog 18 #[.pointer (some ⟨S, 0, none⟩)] W fun e w' => (∃ A n c, e = .returned (.tuple #[.slice A n c, .int .i64 0]) ∧ Bs w' A n (wrapB ⟨0, 17, true⟩ (ordO ms).flatten)) ∧ Below W.heap.size W w') := fun w W S h => set_bytes h (by omega)
  have hcnt : ∀ x, cntK (ordO ms) x N = cntK ms x N := fun x => by have := cntK_perm (ordO_perm ms) x; rw [hol] at this; exact this
  have HCNT := Lib.hid hcnt
  have HROW := Lib.hid hrow9
  have HSAL := Lib.hid hsal
  have HMS := Lib.hid hms
  have HWF := Lib.hid hwf
  have HWO := Lib.hid hwo
  have HML := Lib.hid hmsl
  have HOL := Lib.hid hol
  have HOF := Lib.hid hof
  have HMF := Lib.hid hmsf
  clear hwf hwo hmsl hol hof hmsf hgood hrow9 hcnt hsal
  have HSS := Lib.hid hss
  have HSL := Lib.hid hsl
  clear hF hF2 hN h hms hss hsl
  go_enter Try.func6, Try.ntmps6
  go_wp2_with fail
  refine KF.out.mono ?_
  rintro e w1 ⟨A1, c1, rfl, hbss, hb1⟩
  have HL := Lib.hid hbss
  have HB1 := Lib.hid hb1
  clear hbss hb1 KF
  go_wp2
  go_loopw [5, 6] (fun v i wr => ∃ k : Nat, k ≤ N ∧ i = .int .i64 (k : Int) ∧ RowS w1 ms k v wr) (fun _ i _ => N - (intOf i).toNat)
  case atStart => exact ⟨0, Nat.zero_le _, rfl, ⟨[], World.ownsRow_nil _ _ _ _, Oss.nil _ _, Below.refl _ _⟩⟩
  case round =>
    obtain ⟨k, hk, rfl, ⟨vs, hrow, hvs, hB0⟩⟩ := hrel
    by_cases hlt : k < N
    · obtain ⟨bb, oo, Ai, ni, ci, rfl, hc, hbs, hni⟩ := HL.out.at_ hlt
      have hl100 : (rowL ls k).length ≤ 100 := HSS.out _ (rowL_mem (by have := HSL.out; omega))
      have HMk : Hid (ms.take (k + 1) = ms.take k ++ [os4 (rowL ls k)]) := by
        unfold Hid
        have hkl : k < ls.length := by have := HSL.out; omega
        rw [HMS.out, List.take_add_one]
        simp [List.getElem?_eq_getElem hkl, rowL, List.getD_eq_getElem?_getD]
      obtain ⟨Av, cv, rfl, hcv⟩ := row_form hrow
      have HR := Lib.hid hrow
      have HV := Lib.hid hvs
      have HB0 := Lib.hid hB0
      have HBs := Lib.hid (hbs.below hB0)
      have CEL : Hid (∀ W, Below wr.heap.size wr W → W.cell? ⟨bb, oo + k, none⟩ = some (.slice Ai ni ci)) := fun W hW => ((hB0.trans (hW.mono hB0.size)).cell (World.block_lt_of_cell? _ _ hc)).trans hc
      have CELw : Hid (∀ W, Below w1.heap.size w1 W → W.cell? ⟨bb, oo + k, none⟩ = some (.slice Ai ni ci)) := fun W hW => (hW.cell (World.block_lt_of_cell? _ _ hc)).trans hc
      have e1 : (k : Int) < (N : Int) := by omega
      clear hrow hvs hB0 hbs hc
      go_upto_region 6 with fail
      refine wp_region_held_drew (S := fun W' => W'.cell? ⟨bb, oo + k, none⟩ = some (.slice Ai ni ci)) (by kernel_rfl) ?hb0 (fun hHeld => ?_)
      case hb0 => (try dsimp only); exact CEL.out _ (below_drewN (Below.refl wr.heap.size wr) 1)
      refine wpAnyH_take (i := 0) (v := ?qv0) rfl (by kernel_rfl) (by kernel_rfl) (by kernel_rfl) (fun _ _ _ h => h) (Or.inl ⟨by kernel_rfl, ?qy0⟩) (by assumption) ?_
      case qy0 => (intro w hSw; (try dsimp only at hSw); go_simp) <;> (try with_reducible rfl)
      try simp only [Act.put, List.setIfInBounds_toArray, List.set_cons_zero, List.set_cons_succ, List.getElem_toArray, List.getElem_cons_succ, List.getElem_cons_zero]
      refine wpAnyH_take (i := 2) (v := ?qv2) rfl (by kernel_rfl) (by kernel_rfl) (by kernel_rfl) (fun _ _ _ h => h) (Or.inl ⟨by kernel_rfl, ?qy2⟩) (by assumption) ?_
      case qy2 => (intro w hSw; (try dsimp only at hSw); go_simp) <;> (try with_reducible rfl)
      try simp only [Act.put, List.setIfInBounds_toArray, List.set_cons_zero, List.set_cons_succ, List.getElem_toArray, List.getElem_cons_succ, List.getElem_cons_zero]
      refine wpAnyH_take (i := 3) (v := ?qv3) rfl (by kernel_rfl) (by kernel_rfl) (by kernel_rfl) (fun _ _ _ h => h) (Or.inl ⟨by kernel_rfl, ?qy3⟩) (by assumption) ?_
      case qy3 => (intro w hSw; (try dsimp only at hSw); go_simp) <;> (try with_reducible rfl)
      try simp only [Act.put, List.setIfInBounds_toArray, List.set_cons_zero, List.set_cons_succ, List.getElem_toArray, List.getElem_cons_succ, List.getElem_cons_zero]
      refine wpAnyH_take (i := 4) (v := ?qv4) rfl (by kernel_rfl) (by kernel_rfl) (by kernel_rfl) (fun _ _ _ h => h) (Or.inl ⟨by kernel_rfl, ?qy4⟩) (by assumption) ?_
      case qy4 => (intro w hSw; (try dsimp only at hSw); go_simp) <;> (try with_reducible rfl)
      try simp only [Act.put, List.setIfInBounds_toArray, List.set_cons_zero, List.set_cons_succ, List.getElem_toArray, List.getElem_cons_succ, List.getElem_cons_zero]
      refine wpAnyH_take (i := 5) (v := ?qv5) rfl (by kernel_rfl) (by kernel_rfl) (by kernel_rfl) (fun _ _ _ h => h) (Or.inl ⟨by kernel_rfl, ?qy5⟩) (by assumption) ?_
      case qy5 => (intro w hSw; (try dsimp only at hSw); go_simp) <;> (try with_reducible rfl)
      try simp only [Act.put, List.setIfInBounds_toArray, List.set_cons_zero, List.set_cons_succ, List.getElem_toArray, List.getElem_cons_succ, List.getElem_cons_zero]
      refine wpAnyH_ready (rs := [1]) (by kernel_rfl) (by simp) ?_
      refine AllReadyH.cons rfl (fun K hK => ?_) AllReadyH.nil
      go_simp
      refine (K4.out _).mono ?_
      rintro e wx ⟨rfl, hbx⟩
      have hBx : Below wr.heap.size wr wx := (below_drewN (Below.refl wr.heap.size wr) 1).trans hbx
      refine hK.out _ _ ?hs1a (fun hHeld => ?_)
      case hs1a => (try dsimp only); exact CEL.out _ (hBx)
      clear hK K
      try simp only [Act.put, List.setIfInBounds_toArray, List.set_cons_zero, List.set_cons_succ, List.getElem_toArray, List.getElem_cons_succ, List.getElem_cons_zero]
      refine wpAnyH_ready (rs := [6]) (by kernel_rfl) (by simp) ?_
      refine AllReadyH.cons rfl (fun K hK => ?_) AllReadyH.nil
      go_simp
      refine (KW.out Ai ni ci _ _ (HBs.out.below hBx) (by have := HBs.out.len; omega) hl100).mono ?_
      rintro e wz ⟨X, y, z, rfl, hX, hbz⟩
      have hBz : Below wr.heap.size wr wz := hBx.trans (hbz.mono hBx.size)
      have HRz := Lib.hid (row_belowS HR.out hBz)
      have HOz := Lib.hid ((HV.out.below hBz).append1 (hX.mono (by have := HB0.out.size; have := hBx.size; omega)))
      have HBw := Lib.hid (HB0.out.trans (hBz.mono HB0.out.size))
      have HBw' := Lib.hid (show w1.heap.size ≤ (wz.alloc (.cells #[.slice X y z] 41)).heap.size by have := HBw.out.size; simp; omega)
      refine hK.out _ _ ?hs6a (fun hHeld => ?_)
      case hs6a => (try dsimp only); exact CEL.out _ (hBz)
      clear hK K
      try simp only [Act.put, List.setIfInBounds_toArray, List.set_cons_zero, List.set_cons_succ, List.getElem_toArray, List.getElem_cons_succ, List.getElem_cons_zero]
      refine wpAnyH_ready (rs := [7]) (by kernel_rfl) (by simp) ?_
      refine AllReadyH.cons rfl (fun K hK => ?_) AllReadyH.nil
      go_simp
      refine hK.out _ _ ?hs7a (fun hHeld => ?_)
      case hs7a => (try dsimp only); exact CEL.out _ (hBz.alloc hBz.size _)
      clear hK K
      try simp only [Act.put, List.setIfInBounds_toArray, List.set_cons_zero, List.set_cons_succ, List.getElem_toArray, List.getElem_cons_succ, List.getElem_cons_zero]
      refine wpAnyH_ready (rs := [8]) (by kernel_rfl) (by simp) ?_
      refine AllReadyH.cons rfl (fun K hK => ?_) AllReadyH.nil
      refine step_appendF (by rfl) _ _ 27 (by rfl) w1.heap.size 41 i1 (.slice none 0 0) 1 24 Try.underlying27 hi1 hz0 hz1 hz2 (by rfl) (by omega) _ k vs (by rfl) (World.ownsRow.alloc HRz.out _) _ 1 _ [.slice X y z] (by rfl) (by rfl) (news_new _ _ _) (by intro u hu; simp at hu; subst hu; rfl) (by unfold maxLen; omega) (by omega) (by have := hBz.size; have := HB0.out.size; simp; omega) ?_
      intro v9 w9 hrow9 hg9 _
      have hB9 : Below w1.heap.size w1 w9 := (HBw.out.alloc HBw.out.size (.cells #[.slice X y z] 41)).grown ⟨hg9.os, hg9.tape, hg9.output, hg9.size, hg9.block⟩ HBw'.out (fun q hq => (HRz.out.lt q hq).1)
      refine hK.out _ _ ?hs8a (fun hHeld => ?_)
      case hs8a => (try dsimp only); exact CELw.out _ hB9
      clear hK K
      try simp only [Act.put, List.setIfInBounds_toArray, List.set_cons_zero, List.set_cons_succ, List.getElem_toArray, List.getElem_cons_succ, List.getElem_cons_zero]
      refine wpAnyH_take (i := 9) (v := ?qv9) rfl (by kernel_rfl) (by kernel_rfl) (by kernel_rfl) (fun _ _ _ h => h) (Or.inl ⟨by kernel_rfl, ?qy9⟩) (by assumption) ?_
      case qy9 => (intro w hSw; (try dsimp only at hSw); go_simp) <;> (try with_reducible rfl)
      try simp only [Act.put, List.setIfInBounds_toArray, List.set_cons_zero, List.set_cons_succ, List.getElem_toArray, List.getElem_cons_succ, List.getElem_cons_zero]
      refine wpAnyH_done (by kernel_rfl) ?_ _
      have hO9 := (HOz.out.below (below_alloc1 wz (.cells #[.slice X y z] 41))).grown (World.ownsRow.alloc HRz.out _) (by decide) hg9
      rw [← HMk.out] at hO9
      have HR9 := Lib.hid hrow9
      have HO9 := Lib.hid hO9
      have HB9 := Lib.hid hB9
      clear hO9 hrow9 hB9 hg9
      go_wp2
      go_roundw
      case rel => exact ⟨k + 1, by omega, by go_num, ⟨_, HR9.out, HO9.out, HB9.out⟩⟩
      case measure => simp [intOf]; omega
    · have hkN : k = N := by omega
      subst hkN
      have hmk : ms.take k = ms := by rw [HMS.out]; exact List.take_of_length_le (by simp; have := HSL.out; omega)
      rw [hmk] at hvs
      obtain ⟨Av, cv, rfl, hcv⟩ := row_form hrow
      have HR := Lib.hid hrow
      have HV := Lib.hid hvs
      have HB0 := Lib.hid hB0
      clear hrow hvs hB0 hmk hlt hk
      obtain ⟨r, hr⟩ : ∃ r : Nat, r = (if 0 < k then (at0 % 18446744073709551616 % (k : Int)).toNat else 0) := ⟨_, rfl⟩
      have hrk : r ≤ k := by
        rw [hr]; split
        · rename_i h0
          have h1 := Int.emod_lt_of_pos (at0 % 18446744073709551616) (show (0 : Int) < (k : Int) by omega)
          omega
        · omega
      go_upto_if 44 with fail
      go_cut [7] from 8 (fun v wc => v = .int .i64 (r : Int) ∧ wr = wc)
      case first =>
        by_cases hk0 : 0 < k
        · rw [if_pos hk0] at hr
          have u1 : IntKind.u64.wrap at0 = at0 % 18446744073709551616 := by simp [IntKind.wrap, IntKind.bits, IntKind.signed]
          have u2 : (at0 % 18446744073709551616).tmod (k : Int) = (r : Int) := by rw [Int.tmod_eq_emod_of_nonneg (by omega), hr]; rw [Int.toNat_of_nonneg (Int.emod_nonneg _ (by omega))]
          have u4 : (0 : Int) < (k : Int) := by omega
          clear hr
          go_wp2_with fail
          go_meet
          exact ⟨rfl, rfl⟩
        · rw [if_neg hk0] at hr
          have u4 : ¬ (0 : Int) < (k : Int) := by omega
          subst hr
          go_wp2_with fail
          go_meet
          exact ⟨rfl, rfl⟩
      case rest =>
        obtain ⟨rfl, rfl⟩ := hcut
        have HRr := Lib.hid hrk
        have u3 : (r : Int) ≤ (k : Int) := by omega
        clear hr
        go_upto_region 10 with fail
        obtain ⟨A', c', he', _, hbm⟩ := bss_own HR.out HV.out.vss
        simp only [Value.slice.injEq, true_and] at he'
        obtain ⟨rfl, rfl⟩ := he'
        have HBM := Lib.hid hbm
        clear hbm
        obtain ⟨A5, hcut5, hcell5⟩ := cutS Av k cv r HRr.out hcv
        have hcut6 := cutT Av k cv r HRr.out hcv
        have HC5 := Lib.hid hcell5
        clear hcell5
        go_wp2_with fail
        refine (KS.out Av k cv ms _ HBM.out (List.Perm.refl _)).mono ?_
        rintro e v1 ⟨Xa, ya, za, rfl, hxa, hb⟩
        have HXa := Lib.hid hxa
        have HR1 := Lib.hid (row_belowS HR.out hb)
        have HV1 := Lib.hid (HV.out.below hb)
        have HB1' := Lib.hid (HB0.out.trans (hb.mono HB0.out.size))
        have HBM1 := Lib.hid (HBM.out.below hb)
        clear hxa hb HR HV HB0 HBM
        have hvl : vs.length = k := by have := HR1.out.1; omega
        have HVL := Lib.hid hvl
        clear hvl
        go_upto_region 11 with fail
        refine wp_region_held_drew (S := fun W' => v1.heap.size ≤ W'.heap.size) (by kernel_rfl) ?hb0p (fun hHeld => ?_)
        case hb0p => (try dsimp only); simp
        refine wpAnyH_take (i := 1) (v := ?qv1p) rfl (by kernel_rfl) (by kernel_rfl) (by kernel_rfl) (fun _ _ _ h => h) (Or.inl ⟨by kernel_rfl, ?qy1p⟩) (by assumption) ?_
        case qy1p => (intro w hSw; (try dsimp only at hSw); go_simp) <;> (try with_reducible rfl)
        try simp only [Act.put, List.setIfInBounds_toArray, List.set_cons_zero, List.set_cons_succ, List.getElem_toArray, List.getElem_cons_succ, List.getElem_cons_zero]
        refine wpAnyH_take (i := 2) (v := ?qv2p) rfl (by kernel_rfl) (by kernel_rfl) (by kernel_rfl) (fun _ _ _ h => h) (Or.inl ⟨by kernel_rfl, ?qy2p⟩) (by assumption) ?_
        case qy2p => (intro w hSw; (try dsimp only at hSw); go_simp) <;> (try with_reducible rfl)
        try simp only [Act.put, List.setIfInBounds_toArray, List.set_cons_zero, List.set_cons_succ, List.getElem_toArray, List.getElem_cons_succ, List.getElem_cons_zero]
        refine wpAnyH_take (i := 3) (v := ?qv3p) rfl (by kernel_rfl) (by kernel_rfl) (by kernel_rfl) (fun _ _ _ h => h) (Or.inl ⟨by kernel_rfl, ?qy3p⟩) (by assumption) ?_
        case qy3p => (intro w hSw; (try dsimp only at hSw); go_simp) <;> (try with_reducible rfl)
        try simp only [Act.put, List.setIfInBounds_toArray, List.set_cons_zero, List.set_cons_succ, List.getElem_toArray, List.getElem_cons_succ, List.getElem_cons_zero]
        refine wpAnyH_take (i := 5) (v := ?qv5p) rfl (by kernel_rfl) (by kernel_rfl) (by kernel_rfl) (fun _ _ _ h => h) (Or.inl ⟨by kernel_rfl, ?qy5p⟩) (by assumption) ?_
        case qy5p => (intro w hSw; (try dsimp only at hSw); go_simp) <;> (try with_reducible rfl)
        try simp only [Act.put, List.setIfInBounds_toArray, List.set_cons_zero, List.set_cons_succ, List.getElem_toArray, List.getElem_cons_succ, List.getElem_cons_zero]
        refine wpAnyH_take (i := 6) (v := ?qv6p) rfl (by kernel_rfl) (by kernel_rfl) (by kernel_rfl) (fun _ _ _ h => h) (Or.inl ⟨by kernel_rfl, ?qy6p⟩) (by assumption) ?_
        case qy6p => (intro w hSw; (try dsimp only at hSw); go_simp) <;> (try with_reducible rfl)
        try simp only [Act.put, List.setIfInBounds_toArray, List.set_cons_zero, List.set_cons_succ, List.getElem_toArray, List.getElem_cons_succ, List.getElem_cons_zero]
        refine wpAnyH_take (i := 7) (v := ?qv7p) rfl (by kernel_rfl) (by kernel_rfl) (by kernel_rfl) (fun _ _ _ h => h) (Or.inl ⟨by kernel_rfl, ?qy7p⟩) (by assumption) ?_
        case qy7p => (intro w hSw; (try dsimp only at hSw); go_simp) <;> (try with_reducible rfl)
        try simp only [Act.put, List.setIfInBounds_toArray, List.set_cons_zero, List.set_cons_succ, List.getElem_toArray, List.getElem_cons_succ, List.getElem_cons_zero]
        refine wpAnyH_ready (rs := [0]) (by kernel_rfl) (by simp) ?_
        refine AllReadyH.cons rfl (fun K hK => ?_) AllReadyH.nil
        go_simp
        refine hK.out _ _ ?hs0pa (fun hHeld => ?_)
        case hs0pa => (try dsimp only); simp
        clear hK K
        try simp only [Act.put, List.setIfInBounds_toArray, List.set_cons_zero, List.set_cons_succ, List.getElem_toArray, List.getElem_cons_succ, List.getElem_cons_zero]
        refine wpAnyH_ready (rs := [4]) (by kernel_rfl) (by simp) ?_
        refine AllReadyH.cons rfl (fun K hK => ?_) AllReadyH.nil
        refine step_appendS (by rfl) _ _ 27 (by rfl) v1.heap.size 41 i1 (.slice none 0 0) Try.underlying27 hi1 hz0 hz1 hz2 (by rfl) _ 0 [] (by rfl) (World.ownsRow_made v1 #[] 0 (Nat.le_refl _) (Nat.zero_le _) rfl) A5 (k - r) (cv - r) (vs.drop r) (by rfl) (by have := HVL.out; simp; omega) (fun j u hu => HC5.out _ vs (row_at (row_belowS HR1.out (below_drewN (below_alloc1 v1 (.cells #[] 41)) 1))) HVL.out j u hu) (fun u hu => HV1.out.vss.one u (List.mem_of_mem_drop hu)) (by omega) (by simp) ?_
        intro v5 w5 hrow5 hg5
        rw [Nat.zero_add, List.nil_append] at hrow5
        have hB5 : Below v1.heap.size v1 w5 := (below_drewN (below_alloc1 v1 (.cells #[] 41)) 1).grown ⟨hg5.os, hg5.tape, hg5.output, hg5.size, hg5.block⟩ (by simp) (by intro q hq; simp [Value.ownBlock] at hq; omega)
        obtain ⟨A6, c6, rfl, _⟩ := row_form hrow5
        refine hK.out _ _ ?hs4pa (fun hHeld => ?_)
        case hs4pa => (try dsimp only); exact hB5.size
        clear hK K
        try simp only [Act.put, List.setIfInBounds_toArray, List.set_cons_zero, List.set_cons_succ, List.getElem_toArray, List.getElem_cons_succ, List.getElem_cons_zero]
        refine wpAnyH_ready (rs := [8]) (by kernel_rfl) (by simp) ?_
        refine AllReadyH.cons rfl (fun K hK => ?_) AllReadyH.nil
        refine step_appendS (by rfl) _ _ 27 (by rfl) v1.heap.size 41 i1 (.slice none 0 0) Try.underlying27 hi1 hz0 hz1 hz2 (by rfl) _ (k - r) (vs.drop r) (by rfl) hrow5 Av r cv (vs.take r) (by rfl) (by have := HVL.out; simp; omega) (fun j u hu => by
            obtain ⟨g, hg, hcg⟩ := row_at (row_belowS HR1.out hB5) j u (by rw [List.getElem?_take] at hu; split at hu <;> simp_all)
            exact ⟨g, 0, hg, by rw [Nat.zero_add]; exact hcg⟩) (fun u hu => HV1.out.vss.one u (List.mem_of_mem_take hu)) (by omega) hB5.size ?_
        intro v8 w8 hrow8 hg8
        rw [show k - r + r = k by have := HRr.out; omega] at hrow8
        have hB8 : Below v1.heap.size v1 w8 := hB5.grown ⟨hg8.os, hg8.tape, hg8.output, hg8.size, hg8.block⟩ hB5.size (fun q hq => (hrow5.lt q hq).1)
        obtain ⟨A8, c8, rfl, _, hbs8⟩ := bss_own hrow8 (((HV1.out.below hB8).vss.drop r).append ((HV1.out.below hB8).vss.take r))
        refine hK.out _ _ ?hs8pa (fun hHeld => ?_)
        case hs8pa => (try dsimp only); exact hB8.size
        clear hK K
        try simp only [Act.put, List.setIfInBounds_toArray, List.set_cons_zero, List.set_cons_succ, List.getElem_toArray, List.getElem_cons_succ, List.getElem_cons_zero]
        refine wpAnyH_ready (rs := [9]) (by kernel_rfl) (by simp) ?_
        refine AllReadyH.cons rfl (fun K hK => ?_) AllReadyH.nil
        go_simp
        have hpm : (ms.drop r ++ ms.take r).Perm ms := List.perm_append_comm.trans (by rw [List.take_append_drop])
        refine (KS.out _ _ _ _ _ hbs8 hpm).mono ?_
        rintro e v9 ⟨Xb, yb, zb, rfl, hxb, hb9⟩
        have hB9 : Below v1.heap.size v1 v9 := hB8.trans (hb9.mono hB8.size)
        refine hK.out _ _ ?hs9pa (fun hHeld => ?_)
        case hs9pa => (try dsimp only); exact hB9.size
        clear hK K
        try simp only [Act.put, List.setIfInBounds_toArray, List.set_cons_zero, List.set_cons_succ, List.getElem_toArray, List.getElem_cons_succ, List.getElem_cons_zero]
        refine wpAnyH_take (i := 10) (v := ?qv10p) rfl (by kernel_rfl) (by kernel_rfl) (by kernel_rfl) (fun _ _ _ h => h) (Or.inl ⟨by kernel_rfl, ?qy10p⟩) (by assumption) ?_
        case qy10p => (intro w hSw; (try dsimp only at hSw); go_simp) <;> (try with_reducible rfl)
        try simp only [Act.put, List.setIfInBounds_toArray, List.set_cons_zero, List.set_cons_succ, List.getElem_toArray, List.getElem_cons_succ, List.getElem_cons_zero]
        refine wpAnyH_take (i := 11) (v := ?qv11p) rfl (by kernel_rfl) (by kernel_rfl) (by kernel_rfl) (fun _ _ _ h => h) (Or.inl ⟨by kernel_rfl, ?qy11p⟩) (by assumption) ?_
        case qy11p => (intro w hSw; (try dsimp only at hSw); go_simp) <;> (try with_reducible rfl)
        try simp only [Act.put, List.setIfInBounds_toArray, List.set_cons_zero, List.set_cons_succ, List.getElem_toArray, List.getElem_cons_succ, List.getElem_cons_zero]
        refine wpAnyH_take (i := 12) (v := ?qv12p) rfl (by kernel_rfl) (by kernel_rfl) (by kernel_rfl) (fun _ _ _ h => h) (Or.inl ⟨by kernel_rfl, ?qy12p⟩) (by assumption) ?_
        case qy12p => (intro w hSw; (try dsimp only at hSw); go_simp) <;> (try with_reducible rfl)
        try simp only [Act.put, List.setIfInBounds_toArray, List.set_cons_zero, List.set_cons_succ, List.getElem_toArray, List.getElem_cons_succ, List.getElem_cons_zero]
        refine wpAnyH_take (i := 13) (v := ?qv13p) rfl (by kernel_rfl) (by kernel_rfl) (by kernel_rfl) (fun _ _ _ h => h) (Or.inl ⟨by kernel_rfl, ?qy13p⟩) (by assumption) ?_
        case qy13p => (intro w hSw; (try dsimp only at hSw); go_simp) <;> (try with_reducible rfl)
        try simp only [Act.put, List.setIfInBounds_toArray, List.set_cons_zero, List.set_cons_succ, List.getElem_toArray, List.getElem_cons_succ, List.getElem_cons_zero]
        refine wpAnyH_take (i := 14) (v := ?qv14p) rfl (by kernel_rfl) (by kernel_rfl) (by kernel_rfl) (fun _ _ _ h => h) (Or.inl ⟨by kernel_rfl, ?qy14p⟩) (by assumption) ?_
        case qy14p => (intro w hSw; (try dsimp only at hSw); go_simp) <;> (try with_reducible rfl)
        try simp only [Act.put, List.setIfInBounds_toArray, List.set_cons_zero, List.set_cons_succ, List.getElem_toArray, List.getElem_cons_succ, List.getElem_cons_zero]
        refine wpAnyH_done (by kernel_rfl) ?_ _
        have HXb := Lib.hid hxb
        have HB9 := Lib.hid hB9
        have HBM9 := Lib.hid (HBM1.out.below hB9)
        have HXa9 := Lib.hid (HXa.out.below hB9)
        have HB19 := Lib.hid (HB1'.out.trans (hB9.mono HB1'.out.size))
        clear hxb hB9 hb9 hB8 hbs8 hB5 HBM1 HXa HB1' HR1 HV1
        generalize wrapB ⟨0, 17, true⟩ (ordO ms).flatten = SA at *
        go_wp2_with fail
        refine (set_new _).mono ?_
        rintro e va ⟨rfl, hst⟩
        have HS1 := Lib.hid hst
        clear hst
        go_wp2_with fail
        refine (set_open HS1.out).mono ?_
        rintro e vb ⟨rfl, hst⟩
        have HS2 := Lib.hid hst
        clear hst HS1
        go_wp2_with fail
        refine (set_put HS2.out HBM9.out (by omega) (by have := HMF.out; omega)).mono ?_
        rintro e vc ⟨rfl, hst⟩
        have HS3 := Lib.hid hst
        clear hst HS2
        go_wp2_with fail
        refine (KSh.out _ _ _ HS3.out).mono ?_
        rintro e vd ⟨rfl, hst⟩
        have HS4 := Lib.hid hst
        have hbd : Below v9.heap.size v9 vd := by obtain ⟨_, _, _, h⟩ := hst; exact h
        have HBd := Lib.hid hbd
        clear hst HS3 hbd
        go_wp2_with fail
        refine (KBy.out _ _ _ HS4.out).mono ?_
        rintro e ve ⟨⟨Xc, yc, zc, rfl, hxc⟩, hbe⟩
        have HXc := Lib.hid hxc
        have HBe := Lib.hid (HBd.out.trans (hbe.mono HBd.out.size))
        clear hxc hbe HBd HS4
        go_wp2_with fail
        refine (K17.out _).mono ?_
        rintro e vf ⟨rfl, hbf⟩
        have HXcf := Lib.hid (HXc.out.below hbf)
        have HBf := Lib.hid (HBe.out.trans (hbf.mono HBe.out.size))
        clear hbf HXc HBe
        have HXaf := Lib.hid (HXa9.out.below HBf.out)
        go_wp2_with fail
        refine (KAl.out _ _ _ _ HXaf.out).mono ?_
        rintro e vg ⟨⟨g, s, rfl, hcur, hg⟩, hbg⟩
        have HCur := Lib.hid hcur
        have HG := Lib.hid hg
        have HBg := Lib.hid hbg
        clear hcur hg hbg
        go_wp2_with fail
        refine (KSo.out vf _ g s HCur.out HG.out HBg.out).mono ?_
        rintro e vh ⟨rfl, hcur, hbh⟩
        have HCur2 := Lib.hid hcur
        have HBh := Lib.hid hbh
        clear hcur hbh HCur HBg
        go_wp2_with fail
        refine (KWh.out vf _ g s HCur2.out HG.out HBh.out).mono ?_
        rintro e vi ⟨⟨Aw, cw, rfl, hbw⟩, hbi⟩
        have HAll := Lib.hid hbw
        have HBi := Lib.hid (HBf.out.trans (hbi.mono HBf.out.size))
        have HXc2 := Lib.hid (HXcf.out.below hbi)
        clear hbw hbi HCur2 HG HBh HXcf HXaf
        go_wp2_with fail
        refine (known8 _).mono ?_
        rintro e vj ⟨rfl, hbj⟩
        have HAll2 := Lib.hid (HAll.out.below hbj)
        have HBj := Lib.hid (HBi.out.trans (hbj.mono HBi.out.size))
        have HXcj := Lib.hid (HXc2.out.below hbj)
        clear hbj HAll HBi HXc2 HBf
        have HM := Lib.hid (HBM9.out.below HBj.out)
        have HXaj := Lib.hid (HXa9.out.below HBj.out)
        have HXbj := Lib.hid (HXb.out.below HBj.out)
        have HBall := Lib.hid (HB1.out.trans ((HB19.out.trans (HBj.out.mono HB19.out.size)).mono HB1.out.size))
        clear HBM9 HXa9 HXb HB19 HBj HB9
        go_wp2
        go_loopw [21] (fun v wr => ∃ x : Nat, x ≤ k ∧ v = .int .i64 (x : Int) ∧ Below vj.heap.size vj wr) (fun v _ => k - (intOf v).toNat)
        case atStart => exact ⟨0, Nat.zero_le _, rfl, Below.refl _ _⟩
        case round =>
          obtain ⟨x, hx, rfl, hBx⟩ := hrel
          by_cases hxk : x < k
          · obtain ⟨b1, o1, A2, n2, c2, rfl, hc1, hbs1, hn2⟩ := HM.out.at_ hxk
            have e1 : (x : Int) < (k : Int) := by omega
            have HBx := Lib.hid hBx
            have HC1 : Hid (∀ W, Below vj.heap.size vj W → W.cell? ⟨b1, o1 + x, none⟩ = some (.slice A2 n2 c2) ∧ Bs W A2 n2 (rowL ms x)) := fun W hW => ⟨(hW.cell (World.block_lt_of_cell? _ _ hc1)).trans hc1, hbs1.below hW⟩
            have hlen1 : Hid (n2 ≤ 100000) := by
              have h1 := hbs1.len
              have h2 := HROW.out (rowL ms x) (rowL_mem (by have := HML.out; omega))
              unfold Hid; omega
            clear hBx hc1 hbs1 hn2
            go_wp2
            go_loopw [22, 23, 24] (fun p q v wr => ∃ y : Nat, y ≤ k ∧ v = .int .i64 (y : Int) ∧ p = .int .i64 (cntK ms (rowL ms x) y : Int) ∧ q = .int .i64 (cntK (ordO ms) (rowL ms x) y : Int) ∧ Below vj.heap.size vj wr) (fun _ _ v _ => k - (intOf v).toNat)
            case atStart => exact ⟨0, Nat.zero_le _, rfl, by simp [cntK], by simp [cntK], HBx.out⟩
            case round =>
              obtain ⟨y, hy, rfl, rfl, rfl, hBy⟩ := hrel
              by_cases hyk : y < k
              · obtain ⟨b3, o3, A3, n3, c3, he3, hc3, hbs3, hn3⟩ := HM.out.at_ hyk
                simp only [Option.some.injEq, Addr.mk.injEq] at he3
                obtain ⟨rfl, rfl, _⟩ := he3
                obtain ⟨b4, o4, A4, n4, c4, rfl, hc4, hbs4, hn4⟩ := HAll2.out.at_ hyk
                have e2 : (y : Int) < (k : Int) := by omega
                have s1 : Hid (cntK ms (rowL ms x) (y + 1) = cntK ms (rowL ms x) y + (if rowL ms x = rowL ms y then 1 else 0)) := cntK_succ (by unfold rowL; rw [List.getD_eq_getElem?_getD]; have := HML.out; rw [List.getElem?_eq_getElem (by omega)]; rfl)
                have s2 : Hid (cntK (ordO ms) (rowL ms x) (y + 1) = cntK (ordO ms) (rowL ms x) y + (if rowL ms x = rowL (ordO ms) y then 1 else 0)) := cntK_succ (by unfold rowL; rw [List.getD_eq_getElem?_getD]; have := HOL.out; rw [List.getElem?_eq_getElem (by omega)]; rfl)
                have l1 := cntK_le ms (rowL ms x) y
                have l2 := cntK_le (ordO ms) (rowL ms x) y
                have hlen3 : n3 ≤ 100000 := by
                  have h1 := hbs3.len
                  have h2 := HROW.out (rowL ms y) (rowL_mem (by have := HML.out; omega))
                  omega
                have hlen4 : n4 ≤ 100000 := by
                  have h1 := hbs4.len
                  have h2 := HROW.out (rowL (ordO ms) y) ((ordO_perm ms).mem_iff.1 (rowL_mem (by have := HOL.out; omega)))
                  omega
                have d1 := (HC1.out _ hBy).1
                have d3 := (hBy.cell (World.block_lt_of_cell? _ _ hc3)).trans hc3
                have d4 := (hBy.cell (World.block_lt_of_cell? _ _ hc4)).trans hc4
                have Q1 : Hid (∀ W', Below vj.heap.size vj W' → Calls Try.prog 20 #[.slice A2 n2 c2, .slice A3 n3 c3] W' fun e w' => e = .returned (.bool (decide (rowL ms x = rowL ms y))) ∧ Qt W' w') := fun W' hW => refSame A2 A3 n2 n3 c2 c3 _ _ _ (HC1.out _ hW).2 (hbs3.below hW) (by have := hlen1.out; omega) (by omega)
                have Q2 : Hid (∀ W', Below vj.heap.size vj W' → Calls Try.prog 20 #[.slice A2 n2 c2, .slice A4 n4 c4] W' fun e w' => e = .returned (.bool (decide (rowL ms x = rowL (ordO ms) y))) ∧ Qt W' w') := fun W' hW => refSame A2 A4 n2 n4 c2 c4 _ _ _ (HC1.out _ hW).2 (hbs4.below hW) (by have := hlen1.out; omega) (by omega)
                have HBy := Lib.hid hBy
                have H4 : Hid (∀ W, Below vj.heap.size vj W → W.cell? ⟨b4, o4 + y, none⟩ = some (.slice A4 n4 c4)) := fun W hW => (hW.cell (World.block_lt_of_cell? _ _ hc4)).trans hc4
                clear hBy hc3 hbs3 hn3 hc4 hbs4 hn4 hlen3 hlen4
                generalize cntK ms (rowL ms x) y = P at *
                generalize cntK (ordO ms) (rowL ms x) y = R at *
                by_cases g1 : rowL ms x = rowL ms y
                · have f1 : decide (rowL ms x = rowL ms y) = true := by simpa using g1
                  rw [f1] at Q1
                  have s1' : Hid (cntK ms (rowL ms x) (y + 1) = P + 1) := by unfold Hid; rw [s1.out, if_pos g1]
                  clear g1 f1 s1
                  by_cases g2 : rowL ms x = rowL (ordO ms) y
                  · have f2 : decide (rowL ms x = rowL (ordO ms) y) = true := by simpa using g2
                    rw [f2] at Q2
                    have s2' : Hid (cntK (ordO ms) (rowL ms x) (y + 1) = R + 1) := by unfold Hid; rw [s2.out, if_pos g2]
                    clear g2 f2 s2
                    go_wp2
                    go_quiet ((go_at_call 20; first | exact quietQ (Q1.out _ HBy.out) | exact quietQ (Q1.out _ (below_drewN HBy.out _))))
                    generalize hWq : wr.drewN _ = Wq at *
                    have HBq : Hid (Below vj.heap.size vj Wq) := hWq ▸ below_drewN HBy.out _
                    clear hWq HBy d1 d3 d4
                    have d1 := (HC1.out _ HBq.out).1
                    have d4 := H4.out _ HBq.out
                    go_wp2
                    go_quiet ((go_at_call 20; first | exact quietQ (Q2.out _ HBq.out) | exact quietQ (Q2.out _ (below_drewN HBq.out _))))
                    generalize hWz : Wq.drewN _ = Wz at *
                    have HBz : Hid (Below vj.heap.size vj Wz) := hWz ▸ below_drewN HBq.out _
                    clear hWz HBq d1 d4
                    go_wp2
                    go_roundw
                    case rel => exact ⟨y + 1, by omega, by go_num, by rw [s1'.out] <;> go_num, by rw [s2'.out] <;> go_num, HBz.out⟩
                    case measure => simp [intOf]; omega
                  · have f2 : decide (rowL ms x = rowL (ordO ms) y) = false := by simpa using g2
                    rw [f2] at Q2
                    have s2' : Hid (cntK (ordO ms) (rowL ms x) (y + 1) = R) := by unfold Hid; rw [s2.out, if_neg g2]; rfl
                    clear g2 f2 s2
                    go_wp2
                    go_quiet ((go_at_call 20; first | exact quietQ (Q1.out _ HBy.out) | exact quietQ (Q1.out _ (below_drewN HBy.out _))))
                    generalize hWq : wr.drewN _ = Wq at *
                    have HBq : Hid (Below vj.heap.size vj Wq) := hWq ▸ below_drewN HBy.out _
                    clear hWq HBy d1 d3 d4
                    have d1 := (HC1.out _ HBq.out).1
                    have d4 := H4.out _ HBq.out
                    go_wp2
                    go_quiet ((go_at_call 20; first | exact quietQ (Q2.out _ HBq.out) | exact quietQ (Q2.out _ (below_drewN HBq.out _))))
                    generalize hWz : Wq.drewN _ = Wz at *
                    have HBz : Hid (Below vj.heap.size vj Wz) := hWz ▸ below_drewN HBq.out _
                    clear hWz HBq d1 d4
                    go_wp2
                    go_roundw
                    case rel => exact ⟨y + 1, by omega, by go_num, by rw [s1'.out] <;> go_num, by rw [s2'.out] <;> go_num, HBz.out⟩
                    case measure => simp [intOf]; omega
                · have f1 : decide (rowL ms x = rowL ms y) = false := by simpa using g1
                  rw [f1] at Q1
                  have s1' : Hid (cntK ms (rowL ms x) (y + 1) = P) := by unfold Hid; rw [s1.out, if_neg g1]; rfl
                  clear g1 f1 s1
                  by_cases g2 : rowL ms x = rowL (ordO ms) y
                  · have f2 : decide (rowL ms x = rowL (ordO ms) y) = true := by simpa using g2
                    rw [f2] at Q2
                    have s2' : Hid (cntK (ordO ms) (rowL ms x) (y + 1) = R + 1) := by unfold Hid; rw [s2.out, if_pos g2]
                    clear g2 f2 s2
                    go_wp2
                    go_quiet ((go_at_call 20; first | exact quietQ (Q1.out _ HBy.out) | exact quietQ (Q1.out _ (below_drewN HBy.out _))))
                    generalize hWq : wr.drewN _ = Wq at *
                    have HBq : Hid (Below vj.heap.size vj Wq) := hWq ▸ below_drewN HBy.out _
                    clear hWq HBy d1 d3 d4
                    have d1 := (HC1.out _ HBq.out).1
                    have d4 := H4.out _ HBq.out
                    go_wp2
                    go_quiet ((go_at_call 20; first | exact quietQ (Q2.out _ HBq.out) | exact quietQ (Q2.out _ (below_drewN HBq.out _))))
                    generalize hWz : Wq.drewN _ = Wz at *
                    have HBz : Hid (Below vj.heap.size vj Wz) := hWz ▸ below_drewN HBq.out _
                    clear hWz HBq d1 d4
                    go_wp2
                    go_roundw
                    case rel => exact ⟨y + 1, by omega, by go_num, by rw [s1'.out] <;> go_num, by rw [s2'.out] <;> go_num, HBz.out⟩
                    case measure => simp [intOf]; omega
                  · have f2 : decide (rowL ms x = rowL (ordO ms) y) = false := by simpa using g2
                    rw [f2] at Q2
                    have s2' : Hid (cntK (ordO ms) (rowL ms x) (y + 1) = R) := by unfold Hid; rw [s2.out, if_neg g2]; rfl
                    clear g2 f2 s2
                    go_wp2
                    go_quiet ((go_at_call 20; first | exact quietQ (Q1.out _ HBy.out) | exact quietQ (Q1.out _ (below_drewN HBy.out _))))
                    generalize hWq : wr.drewN _ = Wq at *
                    have HBq : Hid (Below vj.heap.size vj Wq) := hWq ▸ below_drewN HBy.out _
                    clear hWq HBy d1 d3 d4
                    have d1 := (HC1.out _ HBq.out).1
                    have d4 := H4.out _ HBq.out
                    go_wp2
                    go_quiet ((go_at_call 20; first | exact quietQ (Q2.out _ HBq.out) | exact quietQ (Q2.out _ (below_drewN HBq.out _))))
                    generalize hWz : Wq.drewN _ = Wz at *
                    have HBz : Hid (Below vj.heap.size vj Wz) := hWz ▸ below_drewN HBq.out _
                    clear hWz HBq d1 d4
                    go_wp2
                    go_roundw
                    case rel => exact ⟨y + 1, by omega, by go_num, by rw [s1'.out] <;> go_num, by rw [s2'.out] <;> go_num, HBz.out⟩
                    case measure => simp [intOf]; omega
              · have hyn : y = k := by omega
                subst hyn
                rw [HCNT.out]
                have HBy := Lib.hid hBy
                clear hBy hyk hy
                generalize cntK ms (rowL ms x) y = P at *
                go_wp2
                go_roundw
                case rel => first | exact ⟨x + 1, by omega, by go_num, HBy.out⟩ | ((repeat apply Exists.intro); exact ⟨⟨x + 1, by omega, by go_num, HBy.out⟩, rfl⟩)
                case measure => simp [intOf]; omega
          · have hxn : x = k := by omega
            subst hxn
            have HXa2 := Lib.hid (HXaj.out.below hBx)
            have HXb2 := Lib.hid (HXbj.out.below hBx)
            have HXc3 := Lib.hid (HXcj.out.below hBx)
            have HBx := Lib.hid hBx
            clear hBx hxk hx
            go_wp2_with fail
            refine (refSame Xa Xb ya yb za zb SA SA _ HXa2.out HXb2.out (by have := HXa2.out.len; have := HSAL.out; omega) (by have := HXb2.out.len; have := HSAL.out; omega)).mono ?_
            rintro e vk ⟨rfl, hqk⟩
            rw [decide_eq_true rfl]
            have HXa3 := Lib.hid (HXa2.out.qt hqk)
            have HXc4 := Lib.hid (HXc3.out.qt hqk)
            have HBk := Lib.hid (HBx.out.trans (hqk.below (B := vj.heap.size)))
            clear hqk
            go_wp2_with fail
            refine (refSame Xa Xc ya yc za zc SA SA _ HXa3.out HXc4.out (by have := HXa3.out.len; have := HSAL.out; omega) (by have := HXc4.out.len; have := HSAL.out; omega)).mono ?_
            rintro e vl ⟨rfl, hql⟩
            rw [decide_eq_true rfl]
            have HBl := Lib.hid (HBk.out.trans (hql.below (B := vj.heap.size)))
            clear hql
            go_wp2
            go_ret
            exact ⟨rfl, HBall.out.trans (HBl.out.mono HBall.out.size)⟩
end Go.Proofs.Ytpcpaopnofakhaa

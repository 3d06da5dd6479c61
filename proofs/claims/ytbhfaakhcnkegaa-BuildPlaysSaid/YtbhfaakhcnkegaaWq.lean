/-
  The reference's Order.
-/
import Derived.Test.YtbhfaakhcnkegaaWp
import Derived.Test.YtbhfaakhcnkegaaWn
namespace Go.Proofs.Ytbhfaakhcnkegaa
open Go.RowKit
set_option linter.unusedVariables false
set_option linter.unusedSimpArgs false
set_option maxRecDepth 4000

theorem ordO_succ {ls : List (List UInt8)} {k : Nat} (h : k < ls.length) : ordO (ls.take (k + 1)) = insO (ordO (ls.take k)) (rowL ls k) := by
  unfold ordO rowL
  rw [List.take_add_one, List.foldl_append, List.getD_eq_getElem?_getD, List.getElem?_eq_getElem h]; rfl
theorem dnO_step (out : List (List UInt8)) (x : List UInt8) (a : Nat) (h : 0 < Lib.compareBytes (rowL out a) x) : dnO out x (a + 1) = dnO out x a := by
  rw [show dnO out x (a + 1) = if 0 < Lib.compareBytes (rowL out a) x then dnO out x a else a + 1 from rfl, if_pos h]
theorem dnO_stop (out : List (List UInt8)) (x : List UInt8) (a : Nat) (h : ¬ 0 < Lib.compareBytes (rowL out a) x) : dnO out x (a + 1) = a + 1 := by
  rw [show dnO out x (a + 1) = if 0 < Lib.compareBytes (rowL out a) x then dnO out x a else a + 1 from rfl, if_neg h]
theorem Vss.at_ {w : World} {vs : List Value} {ls : List (List UInt8)} (h : Vss w vs ls) {k : Nat} (hk : k < ls.length) : ∃ A n c, vs[k]? = some (.slice A n c) ∧ Bs w A n (rowL ls k) ∧ n ≤ c := by
  obtain ⟨A, n, c, e, hb, hc⟩ := h.2 k _ (List.getElem?_eq_getElem hk)
  refine ⟨A, n, c, e, ?_, hc⟩
  simpa [rowL, List.getD, List.getElem?_eq_getElem hk] using hb
theorem Vss.take {w : World} {vs : List Value} {ls : List (List UInt8)} (h : Vss w vs ls) (a : Nat) : Vss w (vs.take a) (ls.take a) :=
  ⟨by simp [h.1], fun i l hl => by
    rw [List.getElem?_take] at hl
    split at hl
    · obtain ⟨A, n, c, e, r⟩ := h.2 i l hl
      exact ⟨A, n, c, by rw [List.getElem?_take, if_pos ‹_›]; exact e, r⟩
    · cases hl⟩
theorem Vss.drop {w : World} {vs : List Value} {ls : List (List UInt8)} (h : Vss w vs ls) (a : Nat) : Vss w (vs.drop a) (ls.drop a) :=
  ⟨by simp [h.1], fun i l hl => by
    rw [List.getElem?_drop] at hl
    obtain ⟨A, n, c, e, r⟩ := h.2 _ l hl
    exact ⟨A, n, c, by rw [List.getElem?_drop]; exact e, r⟩⟩
/-- Where a row of the call's own lies. -/
theorem row_cells {w : World} {B k : Nat} {te : TypeId} {A : Option Addr} {c : Nat} {vs : List Value} (h : w.ownsRow B te 1 (.slice A k c) k vs) : ∀ j u, vs[j]? = some u → ∃ g, A = some ⟨g, 0, none⟩ ∧ w.cell? ⟨g, j, none⟩ = some u := by
  intro j u hu
  have hj := (List.getElem?_eq_some_iff.1 hu).1
  have hl := h.1
  rcases h.2 with ⟨he, h0⟩ | ⟨g, cap, cur, he, _⟩
  · omega
  · simp at he
    obtain ⟨rfl, rfl⟩ := he
    exact ⟨g, rfl, by rw [h.cellAt j (by omega)]; exact hu⟩

theorem rowMono {w : World} {B B2 k : Nat} {te : TypeId} {v : Value} {xs : List Value} (h : w.ownsRow B2 te 1 v k xs) (hb : B ≤ B2) : w.ownsRow B te 1 v k xs := by
  refine ⟨h.1, ?_⟩
  rcases h.2 with h2 | ⟨g, cap, cur, hv, hg, r⟩
  · exact .inl h2
  · exact .inr ⟨g, cap, cur, hv, by omega, r⟩
/-- l[k:] of a row of slices. -/
theorem cutS (A : Option Addr) (n c k : Nat) (hk : k ≤ n) (hc : n ≤ c) : ∃ A', (∀ (W : World), (Instr.slice 27 (.slice A n c) (some (.int .i64 (k : Int))) none none).run Try.prog W = .ok (.slice A' (n - k) (c - k)) W) ∧
    ∀ (W : World) (vs : List Value), (∀ j u, vs[j]? = some u → ∃ g, A = some ⟨g, 0, none⟩ ∧ W.cell? ⟨g, j, none⟩ = some u) → vs.length = n → ∀ j u, (vs.drop k)[j]? = some u → ∃ b o, A' = some ⟨b, o, none⟩ ∧ W.cell? ⟨b, o + j, none⟩ = some u := by
  by_cases h : k = c
  · subst h
    have : n = k := by omega
    subst this
    refine ⟨A, fun W => ?_, fun W vs hr hl j u hu => ?_⟩
    · go_simp
      try (cases A <;> simp [sliced])
    · rw [List.drop_eq_nil_of_le (by omega)] at hu; cases hu
  · refine ⟨Option.map (fun x => x.add k) A, fun W => ?_, fun W vs hr hl j u hu => ?_⟩
    · go_simp
      have : ¬ c = k := fun e => h e.symm
      cases A <;> simp [sliced, h, this, Nat.sub_eq_zero_iff_le] <;> omega
    · rw [List.getElem?_drop] at hu
      obtain ⟨g, rfl, hc⟩ := hr _ _ hu
      exact ⟨g, 0 + k, by simp [Addr.add_none], by rw [Nat.zero_add]; exact hc⟩

/-- What Order hands back. -/
def OrdOk (w : World) (ls : List (List UInt8)) (e : Ending) (w' : World) : Prop := ∃ v vs, e = .returned v ∧ w'.ownsRow w.heap.size 41 1 v ls.length vs ∧ Vss w vs (ordO ls) ∧ Below w.heap.size w w'

set_option maxHeartbeats 3200000 in
theorem ref8Order (A : Option Addr) (n c : Nat) (ls : List (List UInt8)) (w : World) (h : Bss w A n ls) (hn : n ≤ 1000000) (hsh : Short 1099511627776 ls) :
    Calls Try.prog 33 #[.slice A n c] w (OrdOk w ls) := by
  obtain ⟨i1, hi1, hz0, hz1, hz2⟩ := info_parts sl_info
  have hll := h.len
  have H := Lib.hid h
  have HLL := Lib.hid hll
  have HSH := Lib.hid hsh
  clear h hll hsh
  go_enter Try.func33, Try.ntmps33
  go_wp2
  go_loopw [3, 4] (fun v i wr => ∃ (k : Nat) (vs : List Value), k ≤ n ∧ i = .int .i64 (k : Int) ∧ wr.ownsRow w.heap.size 41 1 v k vs ∧ Vss w vs (ordO (ls.take k)) ∧ Below w.heap.size w wr) (fun _ i _ => n - (intOf i).toNat)
  case atStart => exact ⟨0, [], Nat.zero_le _, rfl, World.ownsRow_nil _ _ _ _, Vss.nil _, Below.refl _ _⟩
  case round =>
    obtain ⟨k, vs, hk, rfl, hrow, hvs, hB⟩ := hrel
    rename World => WRR
    by_cases hlt : k < n
    · obtain ⟨b, o, P, q, d, rfl, hc, hbs, hqd⟩ := H.out.at_ hlt
      have hos := Lib.hid (ordO_succ (ls := ls) (k := k) (by have := HLL.out; omega))
      have hol : (ordO (ls.take k)).length = k := by rw [(ordO_perm _).length_eq]; have := HLL.out; simp; omega
      have hshO : ∀ j, (rowL (ordO (ls.take k)) j).length ≤ 1099511627776 := by
        intro j
        rcases Nat.lt_or_ge j (ordO (ls.take k)).length with hj | hj
        · have hm := List.mem_of_mem_take ((ordO_perm _).mem_iff.1 (rowL_mem hj))
          obtain ⟨i, hi, e⟩ := List.getElem_of_mem hm
          have := HSH.out i
          unfold rowL at this
          rw [List.getD_eq_getElem?_getD, List.getElem?_eq_getElem hi] at this
          rw [← e]; exact this
        · unfold rowL; rw [List.getD_eq_getElem?_getD, List.getElem?_eq_none hj]; simp
      obtain ⟨Av, cv, rfl, hkc⟩ := row_form hrow
      have hshx : (rowL ls k).length ≤ 1099511627776 := HSH.out k
      generalize ordO (ls.take k) = out at *
      generalize hx : rowL ls k = x at *
      clear hx
      -- facts that hold as long as nothing old changes
      have KX : Hid (∀ W, Below WRR.heap.size WRR W → W.cell? ⟨b, o + k, none⟩ = some (.slice P q d)) := fun W hW => (hW.cell (World.block_lt_of_cell? WRR _ ((hB.cell (World.block_lt_of_cell? w _ hc)).trans hc))).trans ((hB.cell (World.block_lt_of_cell? w _ hc)).trans hc)
      have KV : Hid (∀ j, j < k → ∃ g P2 q2 d2, Av = some ⟨g, 0, none⟩ ∧ (∀ W, Below WRR.heap.size WRR W → W.cell? ⟨g, j, none⟩ = some (.slice P2 q2 d2)) ∧ (∀ W, Below WRR.heap.size WRR W → Calls Try.prog 40 #[.slice P2 q2 d2, .slice P q d] W fun e w' => e = .returned (.int .i64 (Lib.compareBytes (rowL out j) x)) ∧ Below WRR.heap.size WRR w')) := by
        intro j hj
        obtain ⟨P2, q2, d2, hv, hb2, hq2⟩ := hvs.at_ (k := j) (by omega)
        obtain ⟨g, hg, hcell⟩ := row_cells hrow j _ hv
        refine ⟨g, P2, q2, d2, hg, fun W hW => (hW.cell (World.block_lt_of_cell? WRR _ hcell)).trans hcell, fun W hW => ?_⟩
        have hBW : Below w.heap.size w W := hB.trans (hW.mono hB.size)
        refine (refCompare P2 P q2 q d2 d _ _ W (hb2.below hBW) (hbs.below hBW) (by have := hb2.len; have := hshO j; omega) (by have := hbs.len; omega)).mono ?_
        rintro e w' ⟨rfl, hq⟩
        exact ⟨rfl, hW.trans (hq.below (B := WRR.heap.size))⟩
      have HROW := Lib.hid hrow
      have HVS := Lib.hid hvs
      have HB := Lib.hid hB
      have HBX := Lib.hid (Vss.cons hbs hqd (Vss.nil w))
      clear hrow hvs hB hbs hc hshO hshx hqd
      go_wp2
      go_loopw [5] (fun a wi => ∃ m : Nat, m ≤ k ∧ a = .int .i64 (m : Int) ∧ Hid (dnO out x k = dnO out x m) ∧ Below WRR.heap.size WRR wi) (fun a _ => (intOf a).toNat)
      case atStart => exact ⟨k, Nat.le_refl _, rfl, rfl, Below.refl _ _⟩
      case round =>
        obtain ⟨m, hm, rfl, hdn, hbi⟩ := hrel
        have HBI := Lib.hid hbi
        clear hbi
        by_cases hm0 : m = 0
        · have hd : Hid (dnO out x k = m) := by unfold Hid; rw [hdn.out, hm0]; rfl
          have ek0 : decide ((0 : Int) < (m : Int)) = false := by simp; omega
          have ek1 : ¬ 0 < m := by omega
          clear hdn
          go_wp2_with fail
          refine wp_region_held_drew (S := fun w' => Below WRR.heap.size WRR w') (by kernel_rfl) ?_ (fun hHeld => ?_)
          · (try dsimp only); exact HBI.out.drew
          refine wpAnyH_take (i := 0) (v := ?_) rfl (by kernel_rfl) (by kernel_rfl) (by kernel_rfl) (fun _ _ _ h => h) (Or.inl ⟨by kernel_rfl, ?_⟩) (by assumption) ?_
          rotate_left 1
          · (intro w hSw; (try dsimp only at hSw); go_simp) <;> (try with_reducible rfl)
          try simp only [Act.put, List.setIfInBounds_toArray, List.set_cons_zero, List.set_cons_succ, List.getElem_toArray, List.getElem_cons_succ, List.getElem_cons_zero]
          refine wpAnyH_take (i := 1) (v := ?_) rfl (by kernel_rfl) (by kernel_rfl) (by kernel_rfl) (fun _ _ _ h => h) (Or.inl ⟨by kernel_rfl, ?_⟩) (by assumption) ?_
          rotate_left 1
          · (intro w hSw; (try dsimp only at hSw); go_simp) <;> (try with_reducible rfl)
          try simp only [Act.put, List.setIfInBounds_toArray, List.set_cons_zero, List.set_cons_succ, List.getElem_toArray, List.getElem_cons_succ, List.getElem_cons_zero]
          refine wpAnyH_take (i := 2) (v := ?_) rfl (by kernel_rfl) (by kernel_rfl) (by kernel_rfl) (fun _ _ _ h => h) (Or.inl ⟨by kernel_rfl, ?_⟩) (by assumption) ?_
          rotate_left 1
          · (intro w hSw; (try dsimp only at hSw); go_simp) <;> (try with_reducible rfl)
          try simp only [Act.put, List.setIfInBounds_toArray, List.set_cons_zero, List.set_cons_succ, List.getElem_toArray, List.getElem_cons_succ, List.getElem_cons_zero]
          refine wpAnyH_take (i := 3) (v := undef) rfl (by kernel_rfl) (by kernel_rfl) (by kernel_rfl) (fun _ _ _ h => h) (Or.inr ⟨by kernel_rfl, rfl⟩) (by assumption) ?_
          try simp only [Act.put, List.setIfInBounds_toArray, List.set_cons_zero, List.set_cons_succ, List.getElem_toArray, List.getElem_cons_succ, List.getElem_cons_zero]
          refine wpAnyH_take (i := 4) (v := undef) rfl (by kernel_rfl) (by kernel_rfl) (by kernel_rfl) (fun _ _ _ h => h) (Or.inr ⟨by kernel_rfl, rfl⟩) (by assumption) ?_
          try simp only [Act.put, List.setIfInBounds_toArray, List.set_cons_zero, List.set_cons_succ, List.getElem_toArray, List.getElem_cons_succ, List.getElem_cons_zero]
          refine wpAnyH_take (i := 5) (v := undef) rfl (by kernel_rfl) (by kernel_rfl) (by kernel_rfl) (fun _ _ _ h => h) (Or.inr ⟨by kernel_rfl, rfl⟩) (by assumption) ?_
          try simp only [Act.put, List.setIfInBounds_toArray, List.set_cons_zero, List.set_cons_succ, List.getElem_toArray, List.getElem_cons_succ, List.getElem_cons_zero]
          refine wpAnyH_take (i := 6) (v := undef) rfl (by kernel_rfl) (by kernel_rfl) (by kernel_rfl) (fun _ _ _ h => h) (Or.inr ⟨by kernel_rfl, rfl⟩) (by assumption) ?_
          try simp only [Act.put, List.setIfInBounds_toArray, List.set_cons_zero, List.set_cons_succ, List.getElem_toArray, List.getElem_cons_succ, List.getElem_cons_zero]
          refine wpAnyH_take (i := 7) (v := undef) rfl (by kernel_rfl) (by kernel_rfl) (by kernel_rfl) (fun _ _ _ h => h) (Or.inr ⟨by kernel_rfl, rfl⟩) (by assumption) ?_
          try simp only [Act.put, List.setIfInBounds_toArray, List.set_cons_zero, List.set_cons_succ, List.getElem_toArray, List.getElem_cons_succ, List.getElem_cons_zero]
          refine wpAnyH_take (i := 8) (v := undef) rfl (by kernel_rfl) (by kernel_rfl) (by kernel_rfl) (fun _ _ _ h => h) (Or.inr ⟨by kernel_rfl, rfl⟩) (by assumption) ?_
          try simp only [Act.put, List.setIfInBounds_toArray, List.set_cons_zero, List.set_cons_succ, List.getElem_toArray, List.getElem_cons_succ, List.getElem_cons_zero]
          refine wpAnyH_take (i := 9) (v := undef) rfl (by kernel_rfl) (by kernel_rfl) (by kernel_rfl) (fun _ _ _ h => h) (Or.inr ⟨by kernel_rfl, rfl⟩) (by assumption) ?_
          try simp only [Act.put, List.setIfInBounds_toArray, List.set_cons_zero, List.set_cons_succ, List.getElem_toArray, List.getElem_cons_succ, List.getElem_cons_zero]
          refine wpAnyH_take (i := 10) (v := undef) rfl (by kernel_rfl) (by kernel_rfl) (by kernel_rfl) (fun _ _ _ h => h) (Or.inr ⟨by kernel_rfl, rfl⟩) (by assumption) ?_
          try simp only [Act.put, List.setIfInBounds_toArray, List.set_cons_zero, List.set_cons_succ, List.getElem_toArray, List.getElem_cons_succ, List.getElem_cons_zero]
          refine wpAnyH_take (i := 11) (v := undef) rfl (by kernel_rfl) (by kernel_rfl) (by kernel_rfl) (fun _ _ _ h => h) (Or.inr ⟨by kernel_rfl, rfl⟩) (by assumption) ?_
          try simp only [Act.put, List.setIfInBounds_toArray, List.set_cons_zero, List.set_cons_succ, List.getElem_toArray, List.getElem_cons_succ, List.getElem_cons_zero]
          refine wpAnyH_take (i := 12) (v := undef) rfl (by kernel_rfl) (by kernel_rfl) (by kernel_rfl) (fun _ _ _ h => h) (Or.inr ⟨by kernel_rfl, rfl⟩) (by assumption) ?_
          try simp only [Act.put, List.setIfInBounds_toArray, List.set_cons_zero, List.set_cons_succ, List.getElem_toArray, List.getElem_cons_succ, List.getElem_cons_zero]
          refine wpAnyH_take (i := 13) (v := undef) rfl (by kernel_rfl) (by kernel_rfl) (by kernel_rfl) (fun _ _ _ h => h) (Or.inr ⟨by kernel_rfl, rfl⟩) (by assumption) ?_
          try simp only [Act.put, List.setIfInBounds_toArray, List.set_cons_zero, List.set_cons_succ, List.getElem_toArray, List.getElem_cons_succ, List.getElem_cons_zero]
          refine wpAnyH_take (i := 14) (v := ?_) rfl (by kernel_rfl) (by kernel_rfl) (by kernel_rfl) (fun _ _ _ h => h) (Or.inl ⟨by kernel_rfl, ?_⟩) (by assumption) ?_
          rotate_left 1
          · (intro w hSw; (try dsimp only at hSw); go_simp) <;> (try with_reducible rfl)
          try simp only [Act.put, List.setIfInBounds_toArray, List.set_cons_zero, List.set_cons_succ, List.getElem_toArray, List.getElem_cons_succ, List.getElem_cons_zero]
          refine wpAnyH_done (by kernel_rfl) ?_ _
          have WI := Lib.hid (HBI.out.drew)
          clear hHeld HBI hm0 ek0 ek1
          generalize wr.drew = w8 at *
          rcases HROW.out.2 with ⟨hv0, hk0⟩ | ⟨g, cap, _, hv, _⟩
          · simp at hv0
            obtain ⟨rfl, rfl, rfl⟩ := hv0
            obtain rfl : m = 0 := by omega
            have ho0 : out = [] := List.eq_nil_of_length_eq_zero hol
            subst ho0
            have hfin : Hid (Vss w [Value.slice P q d] (ordO (ls.take (0 + 1)))) := by
              unfold Hid
              rw [hos.out]
              exact HBX.out
            have s1 := WI.out.size
            have hown : (w8.alloc (.cells #[] 41)).ownsRow WRR.heap.size 41 1 (.slice (some ⟨w8.heap.size, 0, none⟩) 0 0) 0 [] := World.ownsRow_made w8 #[] 0 s1 (Nat.zero_le _) rfl
            have HOWN := Lib.hid hown
            clear hown hm hd KV
            go_wp2_with (at_builtin; refine wpList_appendS rfl _ _ 27 rfl WRR.heap.size 41 i1 (.slice none 0 0) Try.underlying27 hi1 hz0 hz1 hz2 rfl _ 0 [] rfl HOWN.out none 0 0 [] rfl rfl ?v1 ?v2 ?v3 ?v4 ?_)
            try (case v1 => intro j u hu; simp at hu)
            try (case v2 => simp)
            try (case v3 => omega)
            try (case v4 => (first | (simp; done) | (simp; omega) | omega))
            intro v5 w5 row5 g5
            have B5 : Below WRR.heap.size WRR w5 := (WI.out.alloc s1 (.cells #[] 41)).grown g5 (by simp; omega) (fun q hq => by simp [Value.ownBlock] at hq; omega)
            have row5' : w5.ownsRow WRR.heap.size 41 1 v5 0 [] := row5
            have RR5 := Lib.hid row5'
            have BB5 := Lib.hid B5
            have s5 := B5.size
            have yk : w5.cell? ⟨b, o, none⟩ = some (.slice P q d) := KX.out _ B5
            clear g5 B5 row5 row5'
            go_wp2_with (at_builtin; refine wpList_appendS rfl _ _ 27 rfl WRR.heap.size 41 i1 (.slice none 0 0) Try.underlying27 hi1 hz0 hz1 hz2 rfl _ 0 [] rfl ?x0 _ 1 _ [Value.slice P q d] rfl rfl ?x1 ?x2 ?x3 ?x4 ?_)
            try (case x0 => exact RR5.out.alloc _)
            try (case x1 => exact (Vs.new1 w5 (Value.slice P q d) _).2)
            try (case x2 => simp [Value.oneCell'])
            try (case x3 => omega)
            try (case x4 => (first | (simp; done) | (simp; omega) | omega))
            intro v6 w6 row6 g6
            have B6 : Below WRR.heap.size WRR w6 := (BB5.out.alloc s5 (.cells #[Value.slice P q d] 41)).grown g6 (by simp; omega) (fun q hq => (RR5.out.lt q hq).1)
            have row6' : w6.ownsRow WRR.heap.size 41 1 v6 1 [Value.slice P q d] := row6
            have RR6 := Lib.hid row6'
            have BB6 := Lib.hid B6
            have s6 := B6.size
            clear g6 B6 row6 row6' yk
            go_wp2_with (at_builtin; refine wpList_appendS rfl _ _ 27 rfl WRR.heap.size 41 i1 (.slice none 0 0) Try.underlying27 hi1 hz0 hz1 hz2 rfl _ 1 [Value.slice P q d] rfl ?y0 none 0 0 [] rfl rfl ?y1 ?y2 ?y3 ?y4 ?_)
            try (case y0 => exact RR6.out)
            try (case y1 => intro j u hu; simp at hu)
            try (case y2 => simp)
            try (case y3 => omega)
            try (case y4 => exact s6)
            intro v7 w7 row7 g7
            have B7 : Below WRR.heap.size WRR w7 := BB6.out.grown g7 s6 (fun q hq => (RR6.out.lt q hq).1)
            have R7 := Lib.hid (rowMono row7 HB.out.size)
            have BB7 := Lib.hid (HB.out.trans (B7.mono HB.out.size))
            clear g7 B7 row7
            go_wp2
            go_roundw
            case rel => exact ⟨0 + 1, _, by omega, by go_num, by simpa using R7.out, hfin.out, BB7.out⟩
            case measure => (try simp [intOf]) <;> (try omega)
          · simp at hv
            obtain ⟨rfl, rfl⟩ := hv
            have KR : Hid (∀ W, Below WRR.heap.size WRR W → W.ownsRow w.heap.size 41 1 (.slice (some ⟨g, 0, none⟩) k cv) k vs) := fun W hW => World.ownsRow.kept (row := none) HROW.out ⟨hW.os, hW.tape, hW.output, hW.size, fun i hi _ => hW.block i hi⟩ (by cases (Value.slice (some ⟨g, 0, none⟩) k cv).ownBlock <;> simp)
            have hvl : vs.length = k := by have := HROW.out.1; omega
            have HVL := Lib.hid hvl
            have HOL := Lib.hid hol
            have s1 := WI.out.size
            have m1 : (m : Int) ≤ (cv : Int) := by omega
            have m2 : m ≤ cv := by omega
            have m3 : (m : Int) ≤ (k : Int) := by omega
            have m4 : m ≤ k := by omega
            have ov1 : ∀ u ∈ vs, u.oneCell' = true := HVS.out.one
            have HOV := Lib.hid ov1
            clear hvl hol ov1
            go_wp2_with (at_builtin; refine wpList_appendS rfl _ _ 27 rfl WRR.heap.size 41 i1 (.slice none 0 0) Try.underlying27 hi1 hz0 hz1 hz2 rfl _ 0 [] rfl (World.ownsRow_made _ #[] 0 ?t1y (Nat.zero_le _) rfl) (some ⟨g, 0, none⟩) m cv (vs.take m) rfl ?t2y ?t3y ?t4y ?t5y ?t6y ?_)
            case t1y => exact s1
            case t2y => first | (simp [HVL.out]; done) | (simp [HVL.out]; omega)
            case t3y =>
              intro j u hu
              obtain ⟨g9, hg9, hc9⟩ := row_cells (KR.out _ (WI.out.alloc WI.out.size (.cells #[] 41))) j u (by rw [List.getElem?_take] at hu; split at hu; exact hu; cases hu)
              exact ⟨g9, 0, hg9, by rw [Nat.zero_add]; exact hc9⟩
            case t4y => exact fun u hu => HOV.out u (List.mem_of_mem_take hu)
            case t5y => omega
            case t6y => simp; omega
            intro v5 w5 row5 g5
            have B5 : Below WRR.heap.size WRR w5 := (WI.out.alloc WI.out.size (.cells #[] 41)).grown g5 (by have := (WI.out.alloc WI.out.size (.cells #[] 41)).size; exact this) (fun q hq => by simp [Value.ownBlock] at hq; omega)
            have BB5 := Lib.hid B5
            (try rw [List.nil_append] at row5)
            (try rw [Nat.zero_add] at row5)
            have RR5 := Lib.hid row5
            have yk := KX.out _ B5
            have s5 := B5.size
            clear g5 B5 row5
            go_wp2_with (at_builtin; refine wpList_appendS rfl _ _ 27 rfl WRR.heap.size 41 i1 (.slice none 0 0) Try.underlying27 hi1 hz0 hz1 hz2 rfl _ m (vs.take m) rfl ?t7y _ 1 _ [.slice P q d] rfl rfl ?t8y ?t9y ?tay ?tby ?_)
            case t7y => exact RR5.out.alloc _
            case t8y => exact (Vs.new1 w5 (.slice P q d) _).2
            case t9y => simp [Value.oneCell']
            case tay => omega
            case tby => simp; omega
            intro v6 w6 row6 g6
            have B6 : Below WRR.heap.size WRR w6 := (BB5.out.alloc s5 (.cells #[.slice P q d] 41)).grown g6 (by simp; omega) (fun q hq => (RR5.out.lt q hq).1)
            have BB6 := Lib.hid B6
            have RR6 := Lib.hid row6
            have s6 := B6.size
            clear g6 B6 row6 yk
            obtain ⟨A6, c6, rfl, _⟩ := row_form RR6.out
            have hfin : Hid (Vss w (vs.take m ++ [.slice P q d] ++ vs.drop m) (ordO (ls.take (k + 1)))) := by
              unfold Hid
              rw [hos.out]
              unfold insO
              rw [HOL.out, hd.out]
              have := ((HVS.out.take m).append HBX.out).append (HVS.out.drop m)
              simpa using this
            obtain ⟨A7, hrun7, hcut7⟩ := cutS (some ⟨g, 0, none⟩) k cv m m4 (by omega)
            have HCUT := Lib.hid (hcut7 w6 vs (fun j u hu => row_cells (KR.out _ BB6.out) j u hu) HVL.out)
            clear hcut7
            go_wp2_with (at_builtin; refine wpList_appendS rfl _ _ 27 rfl WRR.heap.size 41 i1 (.slice none 0 0) Try.underlying27 hi1 hz0 hz1 hz2 rfl _ (m + 1) (vs.take m ++ [Value.slice P q d]) rfl RR6.out A7 (k - m) (cv - m) (vs.drop m) rfl ?ucy ?udy ?uey ?ufy ?ugy ?_)
            case ucy => simp [HVL.out]
            case udy => exact HCUT.out
            case uey => exact fun u hu => HOV.out u (List.mem_of_mem_drop hu)
            case ufy => omega
            case ugy => exact s6
            intro v7 w7 row7 g7
            have B7 : Below WRR.heap.size WRR w7 := BB6.out.grown g7 s6 (fun q hq => (RR6.out.lt q hq).1)
            have hkk : m + 1 + (k - m) = k + 1 := by omega
            rw [hkk] at row7
            have R7 := Lib.hid (rowMono row7 HB.out.size)
            have BB7 := Lib.hid (HB.out.trans (B7.mono HB.out.size))
            clear g7 B7 row7 hkk
            go_wp2
            go_roundw
            case rel => exact ⟨k + 1, _, by omega, by go_num, R7.out, by simpa using hfin.out, BB7.out⟩
            case measure => (try simp [intOf]) <;> (try omega)
        · obtain ⟨j, rfl⟩ : ∃ j, m = j + 1 := ⟨m - 1, by omega⟩
          obtain ⟨g, P2, q2, d2, hAv, hcj, hcmp⟩ := KV.out j (by omega)
          subst hAv
          have HCJ := Lib.hid hcj
          have HCM := Lib.hid hcmp
          have y2 := hcj _ HBI.out
          have yx := KX.out _ HBI.out
          obtain ⟨m, hmj⟩ : ∃ m, m = j + 1 := ⟨_, rfl⟩
          rw [← hmj] at hdn hm
          have ecast : ((j + 1 : Nat) : Int) = (m : Int) := by omega
          rw [ecast]
          have ek : (m : Int) - 1 = (j : Int) := by omega
          have ek2 : decide ((0 : Int) < (m : Int)) = true := by simp; omega
          have ek3 : j < k := by omega
          have ek5 : 0 < m := by omega
          have ek4 : IntKind.i64.wrap (j : Int) = (j : Int) := by rw [IntKind.wrap_i64]; omega
          have ek6 : j < n := by omega
          have HMJ := Lib.hid hmj
          clear hcj hcmp hm0 ecast hmj
          by_cases hpos : 0 < Lib.compareBytes (rowL out j) x
          · have hd : Hid (dnO out x k = dnO out x j) := by unfold Hid; rw [hdn.out, HMJ.out, dnO_step out x j hpos]
            have ep : decide (0 < Lib.compareBytes (rowL out j) x) = true := by simp; exact hpos
            clear hdn hpos
            go_wp2_with fail
            refine wp_region_held_drew (S := fun w' => (w'.cell? ⟨g, j, none⟩ = some (.slice P2 q2 d2) ∧ w'.cell? ⟨b, o + k, none⟩ = some (.slice P q d)) ∧ Below WRR.heap.size WRR w') (by kernel_rfl) ?_ (fun hHeld => ?_)
            · (try dsimp only); exact ⟨⟨y2, yx⟩, HBI.out.drew⟩
            refine wpAnyH_take (i := 0) (v := ?_) rfl (by kernel_rfl) (by kernel_rfl) (by kernel_rfl) (fun _ _ _ h => h) (Or.inl ⟨by kernel_rfl, ?_⟩) (by assumption) ?_
            rotate_left 1
            · (intro w hSw; (try dsimp only at hSw); go_simp) <;> (try with_reducible rfl)
            try simp only [Act.put, List.setIfInBounds_toArray, List.set_cons_zero, List.set_cons_succ, List.getElem_toArray, List.getElem_cons_succ, List.getElem_cons_zero]
            refine wpAnyH_take (i := 1) (v := ?_) rfl (by kernel_rfl) (by kernel_rfl) (by kernel_rfl) (fun _ _ _ h => h) (Or.inl ⟨by kernel_rfl, ?_⟩) (by assumption) ?_
            rotate_left 1
            · (intro w hSw; (try dsimp only at hSw); go_simp) <;> (try with_reducible rfl)
            try simp only [Act.put, List.setIfInBounds_toArray, List.set_cons_zero, List.set_cons_succ, List.getElem_toArray, List.getElem_cons_succ, List.getElem_cons_zero]
            refine wpAnyH_take (i := 2) (v := ?_) rfl (by kernel_rfl) (by kernel_rfl) (by kernel_rfl) (fun _ _ _ h => h) (Or.inl ⟨by kernel_rfl, ?_⟩) (by assumption) ?_
            rotate_left 1
            · (intro w hSw; (try dsimp only at hSw); go_simp) <;> (try with_reducible rfl)
            try simp only [Act.put, List.setIfInBounds_toArray, List.set_cons_zero, List.set_cons_succ, List.getElem_toArray, List.getElem_cons_succ, List.getElem_cons_zero]
            refine wpAnyH_take (i := 3) (v := ?_) rfl (by kernel_rfl) (by kernel_rfl) (by kernel_rfl) (fun _ _ _ h => h) (Or.inl ⟨by kernel_rfl, ?_⟩) (by assumption) ?_
            rotate_left 1
            · (intro w hSw; (try dsimp only at hSw); go_simp) <;> (try with_reducible rfl)
            try simp only [Act.put, List.setIfInBounds_toArray, List.set_cons_zero, List.set_cons_succ, List.getElem_toArray, List.getElem_cons_succ, List.getElem_cons_zero]
            refine wpAnyH_take (i := 4) (v := ?_) rfl (by kernel_rfl) (by kernel_rfl) (by kernel_rfl) (fun _ _ _ h => h) (Or.inl ⟨by kernel_rfl, ?_⟩) (by assumption) ?_
            rotate_left 1
            · (intro w hSw; (try dsimp only at hSw); go_simp) <;> (try with_reducible rfl)
            try simp only [Act.put, List.setIfInBounds_toArray, List.set_cons_zero, List.set_cons_succ, List.getElem_toArray, List.getElem_cons_succ, List.getElem_cons_zero]
            refine wpAnyH_take (i := 5) (v := ?_) rfl (by kernel_rfl) (by kernel_rfl) (by kernel_rfl) (fun _ _ _ h => h) (Or.inl ⟨by kernel_rfl, ?_⟩) (by assumption) ?_
            rotate_left 1
            · (intro w hSw; (try dsimp only at hSw); go_simp) <;> (try with_reducible rfl)
            try simp only [Act.put, List.setIfInBounds_toArray, List.set_cons_zero, List.set_cons_succ, List.getElem_toArray, List.getElem_cons_succ, List.getElem_cons_zero]
            refine wpAnyH_take (i := 6) (v := ?_) rfl (by kernel_rfl) (by kernel_rfl) (by kernel_rfl) (fun _ _ _ h => h) (Or.inl ⟨by kernel_rfl, ?_⟩) (by assumption) ?_
            rotate_left 1
            · (intro w hSw; (try dsimp only at hSw); go_simp) <;> (try with_reducible rfl)
            try simp only [Act.put, List.setIfInBounds_toArray, List.set_cons_zero, List.set_cons_succ, List.getElem_toArray, List.getElem_cons_succ, List.getElem_cons_zero]
            refine wpAnyH_take (i := 7) (v := ?_) rfl (by kernel_rfl) (by kernel_rfl) (by kernel_rfl) (fun _ _ _ h => h) (Or.inl ⟨by kernel_rfl, ?_⟩) (by assumption) ?_
            rotate_left 1
            · (intro w hSw; (try dsimp only at hSw); go_simp) <;> (try with_reducible rfl)
            try simp only [Act.put, List.setIfInBounds_toArray, List.set_cons_zero, List.set_cons_succ, List.getElem_toArray, List.getElem_cons_succ, List.getElem_cons_zero]
            refine wpAnyH_take (i := 8) (v := ?_) rfl (by kernel_rfl) (by kernel_rfl) (by kernel_rfl) (fun _ _ _ h => h) (Or.inl ⟨by kernel_rfl, ?_⟩) (by assumption) ?_
            rotate_left 1
            · (intro w hSw; (try dsimp only at hSw); go_simp) <;> (try with_reducible rfl)
            try simp only [Act.put, List.setIfInBounds_toArray, List.set_cons_zero, List.set_cons_succ, List.getElem_toArray, List.getElem_cons_succ, List.getElem_cons_zero]
            refine wpAnyH_take (i := 9) (v := ?_) rfl (by kernel_rfl) (by kernel_rfl) (by kernel_rfl) (fun _ _ _ h => h) (Or.inl ⟨by kernel_rfl, ?_⟩) (by assumption) ?_
            rotate_left 1
            · (intro w hSw; (try dsimp only at hSw); go_simp) <;> (try with_reducible rfl)
            try simp only [Act.put, List.setIfInBounds_toArray, List.set_cons_zero, List.set_cons_succ, List.getElem_toArray, List.getElem_cons_succ, List.getElem_cons_zero]
            refine wpAnyH_take (i := 10) (v := ?_) rfl (by kernel_rfl) (by kernel_rfl) (by kernel_rfl) (fun _ _ _ h => h) (Or.inl ⟨by kernel_rfl, ?_⟩) (by assumption) ?_
            rotate_left 1
            · (intro w hSw; (try dsimp only at hSw); go_simp) <;> (try with_reducible rfl)
            try simp only [Act.put, List.setIfInBounds_toArray, List.set_cons_zero, List.set_cons_succ, List.getElem_toArray, List.getElem_cons_succ, List.getElem_cons_zero]
            refine wpAnyH_take (i := 11) (v := ?_) rfl (by kernel_rfl) (by kernel_rfl) (by kernel_rfl) (fun _ _ _ h => h) (Or.inl ⟨by kernel_rfl, ?_⟩) (by assumption) ?_
            rotate_left 1
            · (intro w hSw; (try dsimp only at hSw); go_simp) <;> (try with_reducible rfl)
            try simp only [Act.put, List.setIfInBounds_toArray, List.set_cons_zero, List.set_cons_succ, List.getElem_toArray, List.getElem_cons_succ, List.getElem_cons_zero]
            refine wpAnyH_ready (rs := [12]) (by kernel_rfl) (by simp) ?_
            refine AllReadyH.cons rfl (fun K hK => ?_) AllReadyH.nil
            go_simp
            (try rw [if_pos ek5])
            refine (HCM.out _ hHeld.2).mono ?_
            rintro e w8 ⟨rfl, hbC⟩
            go_wp2_with fail
            refine hK.out _ _ ?_ (fun hHeld => ?_)
            · (try dsimp only); exact ⟨⟨HCJ.out _ hbC, KX.out _ hbC⟩, hbC⟩
            clear hK K
            try simp only [Act.put, List.setIfInBounds_toArray, List.set_cons_zero, List.set_cons_succ, List.getElem_toArray, List.getElem_cons_succ, List.getElem_cons_zero]
            refine wpAnyH_take (i := 13) (v := ?_) rfl (by kernel_rfl) (by kernel_rfl) (by kernel_rfl) (fun _ _ _ h => h) (Or.inl ⟨by kernel_rfl, ?_⟩) (by assumption) ?_
            rotate_left 1
            · (intro w hSw; (try dsimp only at hSw); go_simp) <;> (try with_reducible rfl)
            try simp only [Act.put, List.setIfInBounds_toArray, List.set_cons_zero, List.set_cons_succ, List.getElem_toArray, List.getElem_cons_succ, List.getElem_cons_zero]
            refine wpAnyH_take (i := 14) (v := ?_) rfl (by kernel_rfl) (by kernel_rfl) (by kernel_rfl) (fun _ _ _ h => h) (Or.inl ⟨by kernel_rfl, ?_⟩) (by assumption) ?_
            rotate_left 1
            · (intro w hSw; (try dsimp only at hSw); go_simp) <;> (try with_reducible rfl)
            try simp only [Act.put, List.setIfInBounds_toArray, List.set_cons_zero, List.set_cons_succ, List.getElem_toArray, List.getElem_cons_succ, List.getElem_cons_zero]
            refine wpAnyH_done (by kernel_rfl) ?_ _
            have WI := Lib.hid hbC
            clear hHeld hbC
            go_wp2_with fail
            go_roundw
            case rel => exact ⟨j, by omega, by go_num, hd, WI.out⟩
            case measure => (try simp [intOf]) <;> (try omega)
          · have hd : Hid (dnO out x k = m) := by unfold Hid; rw [hdn.out, HMJ.out, dnO_stop out x j hpos]
            have ep : decide (0 < Lib.compareBytes (rowL out j) x) = false := by simp; omega
            clear hdn hpos
            go_wp2_with fail
            refine wp_region_held_drew (S := fun w' => (w'.cell? ⟨g, j, none⟩ = some (.slice P2 q2 d2) ∧ w'.cell? ⟨b, o + k, none⟩ = some (.slice P q d)) ∧ Below WRR.heap.size WRR w') (by kernel_rfl) ?_ (fun hHeld => ?_)
            · (try dsimp only); exact ⟨⟨y2, yx⟩, HBI.out.drew⟩
            refine wpAnyH_take (i := 0) (v := ?_) rfl (by kernel_rfl) (by kernel_rfl) (by kernel_rfl) (fun _ _ _ h => h) (Or.inl ⟨by kernel_rfl, ?_⟩) (by assumption) ?_
            rotate_left 1
            · (intro w hSw; (try dsimp only at hSw); go_simp) <;> (try with_reducible rfl)
            try simp only [Act.put, List.setIfInBounds_toArray, List.set_cons_zero, List.set_cons_succ, List.getElem_toArray, List.getElem_cons_succ, List.getElem_cons_zero]
            refine wpAnyH_take (i := 1) (v := ?_) rfl (by kernel_rfl) (by kernel_rfl) (by kernel_rfl) (fun _ _ _ h => h) (Or.inl ⟨by kernel_rfl, ?_⟩) (by assumption) ?_
            rotate_left 1
            · (intro w hSw; (try dsimp only at hSw); go_simp) <;> (try with_reducible rfl)
            try simp only [Act.put, List.setIfInBounds_toArray, List.set_cons_zero, List.set_cons_succ, List.getElem_toArray, List.getElem_cons_succ, List.getElem_cons_zero]
            refine wpAnyH_take (i := 2) (v := ?_) rfl (by kernel_rfl) (by kernel_rfl) (by kernel_rfl) (fun _ _ _ h => h) (Or.inl ⟨by kernel_rfl, ?_⟩) (by assumption) ?_
            rotate_left 1
            · (intro w hSw; (try dsimp only at hSw); go_simp) <;> (try with_reducible rfl)
            try simp only [Act.put, List.setIfInBounds_toArray, List.set_cons_zero, List.set_cons_succ, List.getElem_toArray, List.getElem_cons_succ, List.getElem_cons_zero]
            refine wpAnyH_take (i := 3) (v := ?_) rfl (by kernel_rfl) (by kernel_rfl) (by kernel_rfl) (fun _ _ _ h => h) (Or.inl ⟨by kernel_rfl, ?_⟩) (by assumption) ?_
            rotate_left 1
            · (intro w hSw; (try dsimp only at hSw); go_simp) <;> (try with_reducible rfl)
            try simp only [Act.put, List.setIfInBounds_toArray, List.set_cons_zero, List.set_cons_succ, List.getElem_toArray, List.getElem_cons_succ, List.getElem_cons_zero]
            refine wpAnyH_take (i := 4) (v := ?_) rfl (by kernel_rfl) (by kernel_rfl) (by kernel_rfl) (fun _ _ _ h => h) (Or.inl ⟨by kernel_rfl, ?_⟩) (by assumption) ?_
            rotate_left 1
            · (intro w hSw; (try dsimp only at hSw); go_simp) <;> (try with_reducible rfl)
            try simp only [Act.put, List.setIfInBounds_toArray, List.set_cons_zero, List.set_cons_succ, List.getElem_toArray, List.getElem_cons_succ, List.getElem_cons_zero]
            refine wpAnyH_take (i := 5) (v := ?_) rfl (by kernel_rfl) (by kernel_rfl) (by kernel_rfl) (fun _ _ _ h => h) (Or.inl ⟨by kernel_rfl, ?_⟩) (by assumption) ?_
            rotate_left 1
            · (intro w hSw; (try dsimp only at hSw); go_simp) <;> (try with_reducible rfl)
            try simp only [Act.put, List.setIfInBounds_toArray, List.set_cons_zero, List.set_cons_succ, List.getElem_toArray, List.getElem_cons_succ, List.getElem_cons_zero]
            refine wpAnyH_take (i := 6) (v := ?_) rfl (by kernel_rfl) (by kernel_rfl) (by kernel_rfl) (fun _ _ _ h => h) (Or.inl ⟨by kernel_rfl, ?_⟩) (by assumption) ?_
            rotate_left 1
            · (intro w hSw; (try dsimp only at hSw); go_simp) <;> (try with_reducible rfl)
            try simp only [Act.put, List.setIfInBounds_toArray, List.set_cons_zero, List.set_cons_succ, List.getElem_toArray, List.getElem_cons_succ, List.getElem_cons_zero]
            refine wpAnyH_take (i := 7) (v := ?_) rfl (by kernel_rfl) (by kernel_rfl) (by kernel_rfl) (fun _ _ _ h => h) (Or.inl ⟨by kernel_rfl, ?_⟩) (by assumption) ?_
            rotate_left 1
            · (intro w hSw; (try dsimp only at hSw); go_simp) <;> (try with_reducible rfl)
            try simp only [Act.put, List.setIfInBounds_toArray, List.set_cons_zero, List.set_cons_succ, List.getElem_toArray, List.getElem_cons_succ, List.getElem_cons_zero]
            refine wpAnyH_take (i := 8) (v := ?_) rfl (by kernel_rfl) (by kernel_rfl) (by kernel_rfl) (fun _ _ _ h => h) (Or.inl ⟨by kernel_rfl, ?_⟩) (by assumption) ?_
            rotate_left 1
            · (intro w hSw; (try dsimp only at hSw); go_simp) <;> (try with_reducible rfl)
            try simp only [Act.put, List.setIfInBounds_toArray, List.set_cons_zero, List.set_cons_succ, List.getElem_toArray, List.getElem_cons_succ, List.getElem_cons_zero]
            refine wpAnyH_take (i := 9) (v := ?_) rfl (by kernel_rfl) (by kernel_rfl) (by kernel_rfl) (fun _ _ _ h => h) (Or.inl ⟨by kernel_rfl, ?_⟩) (by assumption) ?_
            rotate_left 1
            · (intro w hSw; (try dsimp only at hSw); go_simp) <;> (try with_reducible rfl)
            try simp only [Act.put, List.setIfInBounds_toArray, List.set_cons_zero, List.set_cons_succ, List.getElem_toArray, List.getElem_cons_succ, List.getElem_cons_zero]
            refine wpAnyH_take (i := 10) (v := ?_) rfl (by kernel_rfl) (by kernel_rfl) (by kernel_rfl) (fun _ _ _ h => h) (Or.inl ⟨by kernel_rfl, ?_⟩) (by assumption) ?_
            rotate_left 1
            · (intro w hSw; (try dsimp only at hSw); go_simp) <;> (try with_reducible rfl)
            try simp only [Act.put, List.setIfInBounds_toArray, List.set_cons_zero, List.set_cons_succ, List.getElem_toArray, List.getElem_cons_succ, List.getElem_cons_zero]
            refine wpAnyH_take (i := 11) (v := ?_) rfl (by kernel_rfl) (by kernel_rfl) (by kernel_rfl) (fun _ _ _ h => h) (Or.inl ⟨by kernel_rfl, ?_⟩) (by assumption) ?_
            rotate_left 1
            · (intro w hSw; (try dsimp only at hSw); go_simp) <;> (try with_reducible rfl)
            try simp only [Act.put, List.setIfInBounds_toArray, List.set_cons_zero, List.set_cons_succ, List.getElem_toArray, List.getElem_cons_succ, List.getElem_cons_zero]
            refine wpAnyH_ready (rs := [12]) (by kernel_rfl) (by simp) ?_
            refine AllReadyH.cons rfl (fun K hK => ?_) AllReadyH.nil
            go_simp
            (try rw [if_pos ek5])
            refine (HCM.out _ hHeld.2).mono ?_
            rintro e w8 ⟨rfl, hbC⟩
            go_wp2_with fail
            refine hK.out _ _ ?_ (fun hHeld => ?_)
            · (try dsimp only); exact ⟨⟨HCJ.out _ hbC, KX.out _ hbC⟩, hbC⟩
            clear hK K
            try simp only [Act.put, List.setIfInBounds_toArray, List.set_cons_zero, List.set_cons_succ, List.getElem_toArray, List.getElem_cons_succ, List.getElem_cons_zero]
            refine wpAnyH_take (i := 13) (v := ?_) rfl (by kernel_rfl) (by kernel_rfl) (by kernel_rfl) (fun _ _ _ h => h) (Or.inl ⟨by kernel_rfl, ?_⟩) (by assumption) ?_
            rotate_left 1
            · (intro w hSw; (try dsimp only at hSw); go_simp) <;> (try with_reducible rfl)
            try simp only [Act.put, List.setIfInBounds_toArray, List.set_cons_zero, List.set_cons_succ, List.getElem_toArray, List.getElem_cons_succ, List.getElem_cons_zero]
            refine wpAnyH_take (i := 14) (v := ?_) rfl (by kernel_rfl) (by kernel_rfl) (by kernel_rfl) (fun _ _ _ h => h) (Or.inl ⟨by kernel_rfl, ?_⟩) (by assumption) ?_
            rotate_left 1
            · (intro w hSw; (try dsimp only at hSw); go_simp) <;> (try with_reducible rfl)
            try simp only [Act.put, List.setIfInBounds_toArray, List.set_cons_zero, List.set_cons_succ, List.getElem_toArray, List.getElem_cons_succ, List.getElem_cons_zero]
            refine wpAnyH_done (by kernel_rfl) ?_ _
            have WI := Lib.hid hbC
            clear hHeld hbC
            have KR : Hid (∀ W, Below WRR.heap.size WRR W → W.ownsRow w.heap.size 41 1 (.slice (some ⟨g, 0, none⟩) k cv) k vs) := fun W hW => World.ownsRow.kept (row := none) HROW.out ⟨hW.os, hW.tape, hW.output, hW.size, fun i hi _ => hW.block i hi⟩ (by cases (Value.slice (some ⟨g, 0, none⟩) k cv).ownBlock <;> simp)
            have hvl : vs.length = k := by have := HROW.out.1; omega
            have HVL := Lib.hid hvl
            have HOL := Lib.hid hol
            have s1 := WI.out.size
            have m1 : (m : Int) ≤ (cv : Int) := by omega
            have m2 : m ≤ cv := by omega
            have m3 : (m : Int) ≤ (k : Int) := by omega
            have m4 : m ≤ k := by omega
            have ov1 : ∀ u ∈ vs, u.oneCell' = true := HVS.out.one
            have HOV := Lib.hid ov1
            clear hvl hol ov1
            go_wp2_with (at_builtin; refine wpList_appendS rfl _ _ 27 rfl WRR.heap.size 41 i1 (.slice none 0 0) Try.underlying27 hi1 hz0 hz1 hz2 rfl _ 0 [] rfl (World.ownsRow_made _ #[] 0 ?t1z (Nat.zero_le _) rfl) (some ⟨g, 0, none⟩) m cv (vs.take m) rfl ?t2z ?t3z ?t4z ?t5z ?t6z ?_)
            case t1z => exact s1
            case t2z => first | (simp [HVL.out]; done) | (simp [HVL.out]; omega)
            case t3z =>
              intro j u hu
              obtain ⟨g9, hg9, hc9⟩ := row_cells (KR.out _ (WI.out.alloc WI.out.size (.cells #[] 41))) j u (by rw [List.getElem?_take] at hu; split at hu; exact hu; cases hu)
              exact ⟨g9, 0, hg9, by rw [Nat.zero_add]; exact hc9⟩
            case t4z => exact fun u hu => HOV.out u (List.mem_of_mem_take hu)
            case t5z => omega
            case t6z => simp; omega
            intro v5 w5 row5 g5
            have B5 : Below WRR.heap.size WRR w5 := (WI.out.alloc WI.out.size (.cells #[] 41)).grown g5 (by have := (WI.out.alloc WI.out.size (.cells #[] 41)).size; exact this) (fun q hq => by simp [Value.ownBlock] at hq; omega)
            have BB5 := Lib.hid B5
            (try rw [List.nil_append] at row5)
            (try rw [Nat.zero_add] at row5)
            have RR5 := Lib.hid row5
            have yk := KX.out _ B5
            have s5 := B5.size
            clear g5 B5 row5
            go_wp2_with (at_builtin; refine wpList_appendS rfl _ _ 27 rfl WRR.heap.size 41 i1 (.slice none 0 0) Try.underlying27 hi1 hz0 hz1 hz2 rfl _ m (vs.take m) rfl ?t7z _ 1 _ [.slice P q d] rfl rfl ?t8z ?t9z ?taz ?tbz ?_)
            case t7z => exact RR5.out.alloc _
            case t8z => exact (Vs.new1 w5 (.slice P q d) _).2
            case t9z => simp [Value.oneCell']
            case taz => omega
            case tbz => simp; omega
            intro v6 w6 row6 g6
            have B6 : Below WRR.heap.size WRR w6 := (BB5.out.alloc s5 (.cells #[.slice P q d] 41)).grown g6 (by simp; omega) (fun q hq => (RR5.out.lt q hq).1)
            have BB6 := Lib.hid B6
            have RR6 := Lib.hid row6
            have s6 := B6.size
            clear g6 B6 row6 yk
            obtain ⟨A6, c6, rfl, _⟩ := row_form RR6.out
            have hfin : Hid (Vss w (vs.take m ++ [.slice P q d] ++ vs.drop m) (ordO (ls.take (k + 1)))) := by
              unfold Hid
              rw [hos.out]
              unfold insO
              rw [HOL.out, hd.out]
              have := ((HVS.out.take m).append HBX.out).append (HVS.out.drop m)
              simpa using this
            obtain ⟨A7, hrun7, hcut7⟩ := cutS (some ⟨g, 0, none⟩) k cv m m4 (by omega)
            have HCUT := Lib.hid (hcut7 w6 vs (fun j u hu => row_cells (KR.out _ BB6.out) j u hu) HVL.out)
            clear hcut7
            go_wp2_with (at_builtin; refine wpList_appendS rfl _ _ 27 rfl WRR.heap.size 41 i1 (.slice none 0 0) Try.underlying27 hi1 hz0 hz1 hz2 rfl _ (m + 1) (vs.take m ++ [Value.slice P q d]) rfl RR6.out A7 (k - m) (cv - m) (vs.drop m) rfl ?ucz ?udz ?uez ?ufz ?ugz ?_)
            case ucz => simp [HVL.out]
            case udz => exact HCUT.out
            case uez => exact fun u hu => HOV.out u (List.mem_of_mem_drop hu)
            case ufz => omega
            case ugz => exact s6
            intro v7 w7 row7 g7
            have B7 : Below WRR.heap.size WRR w7 := BB6.out.grown g7 s6 (fun q hq => (RR6.out.lt q hq).1)
            have hkk : m + 1 + (k - m) = k + 1 := by omega
            rw [hkk] at row7
            have R7 := Lib.hid (rowMono row7 HB.out.size)
            have BB7 := Lib.hid (HB.out.trans (B7.mono HB.out.size))
            clear g7 B7 row7 hkk
            go_wp2
            go_roundw
            case rel => exact ⟨k + 1, _, by omega, by go_num, R7.out, by simpa using hfin.out, BB7.out⟩
            case measure => (try simp [intOf]) <;> (try omega)
    · have hkn : k = n := by omega
      have hos : Hid (ordO (ls.take k) = ordO ls) := by unfold Hid; rw [List.take_of_length_le (by have := HLL.out; omega)]
      have hkl : Hid (k = ls.length) := by unfold Hid; have := HLL.out; omega
      have HR2 := Lib.hid hrow
      have HV2 := Lib.hid hvs
      have HB2 := Lib.hid hB
      clear hrow hvs hB hk
      go_wp2
      go_ret
      exact ⟨_, vs, rfl, by rw [← hkl.out]; exact HR2.out, by rw [← hos.out]; exact HV2.out, HB2.out⟩

end Go.Proofs.Ytbhfaakhcnkegaa

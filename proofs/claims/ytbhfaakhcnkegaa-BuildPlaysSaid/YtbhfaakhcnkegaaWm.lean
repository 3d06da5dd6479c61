/-
  The reference's Wholes.
-/
import Derived.Test.YtbhfaakhcnkegaaWl
namespace Go.Proofs.Ytbhfaakhcnkegaa
open Go.RowKit
set_option linter.unusedVariables false
set_option linter.unusedSimpArgs false
set_option maxRecDepth 4000

/-- What the reference's Wholes hands back. -/
def RwOk (w : World) (l : List UInt8) (k : Nat) (e : Ending) (w' : World) : Prop :=
  ∃ A n c vs, e = .returned (.tuple #[.slice A n c, .int .i64 (whs l k).2]) ∧ n = (whs l k).1.length ∧ w'.ownsRow w.heap.size 41 1 (.slice A n c) n vs ∧ Vss w' vs (whs l k).1 ∧ Below w.heap.size w w'

set_option maxHeartbeats 3200000 in
theorem ref8Wholes (A : Option Addr) (n c k : Nat) (x : Int) (l : List UInt8) (w : World) (h : Bs w A n l) (hc : n ≤ c) (hn : n ≤ 1099511627) (hk : k ≤ n) (hx : x = k) :
    Calls Try.prog 39 #[.slice A n c, .int .i64 x] w (RwOk w l k) := by
  subst hx
  obtain ⟨i1, hi1, hz0, hz1, hz2⟩ := info_parts sl_info
  have hl := h.len
  have H := Lib.hid h
  have HL := Lib.hid hl
  have HRW : Hid (RwOk w l k = fun e w' => ∃ A n c vs, e = .returned (.tuple #[.slice A n c, .int .i64 (whs l k).2]) ∧ n = (whs l k).1.length ∧ w'.ownsRow w.heap.size 41 1 (.slice A n c) n vs ∧ Vss w' vs (whs l k).1 ∧ Below w.heap.size w w') := rfl
  have h0 : Hid (whs l k = whs2 [] (whs l k)) := (whs2_nil l k).symm
  clear h hl
  go_enter Try.func39, Try.ntmps39
  go_wp2
  go_loopw [1, 6] (fun j v wr => ∃ (m : Nat) (acc : List (List UInt8)) (vs : List Value), j = .int .i64 (m : Int) ∧ k ≤ m ∧ m ≤ n ∧ acc.length ≤ m ∧ Below w.heap.size w wr ∧ wr.ownsRow w.heap.size 41 1 v acc.length vs ∧ Vss w vs acc ∧
    Hid (whs l k = whs2 acc (whs l m))) (fun j _ _ => n - (intOf j).toNat)
  case atStart => exact ⟨k, [], [], rfl, Nat.le_refl _, hk, Nat.zero_le _, Below.refl _ _, World.ownsRow_nil _ _ _ _, Vss.nil _, h0⟩
  case round =>
    clear h0
    obtain ⟨m, acc, vs, rfl, hkm, hm, hacc, hB, hrow, hvs, hst⟩ := hrel
    by_cases hlt : m < n
    · obtain ⟨b, o, rfl, hc0⟩ := H.out.at_ hlt
      have hR := Lib.hid (fun (W : World) (hW : Below w.heap.size w W) => refRead _ n c m (m : Int) l W (H.out.below hW) (by omega) (by omega) rfl)
      have HV : Hid (∀ e, e = headV (rHead l m) → e = .returned (.tuple #[(rHead l m).1.v, .int .i64 (rHead l m).2.1, .int .i64 ((rHead l m).2.2.1 : Int), .int .i64 (rHead l m).2.2.2])) := fun e h => h
      clear hc0
      by_cases hok : (nx l m).2.2 = 0
      · obtain ⟨q0, q1, q2, q3, q4, q5, q6⟩ := nx_ok l m hok
        have hst2 : Hid (whs l k = whs2 (acc ++ [(nx l m).1]) (whs l (nx l m).2.1)) := hst.out.trans (whs2_step acc l m (by have := HL.out; omega) hok)
        rw [q0] at HV
        rw [q6, q5] at hst2
        have hl2 := HL.out
        clear q0 q5 q6 hok hst
        generalize (rHead l m).1 = T at *
        generalize (rHead l m).2.2.1 = K at *
        generalize (rHead l m).2.1 = N0 at *
        obtain ⟨N, rfl⟩ : ∃ N : Nat, N0 = N := ⟨N0.toNat, by omega⟩
        rw [Int.toNat_natCast] at *
        have hKN : K + N ≤ n := by omega
        have HBs : Hid (Bs w (some ⟨b, o + m, none⟩) (K + N - m) ((l.drop m).take (K + N - m))) := by
          have h7 := H.out.cut (i := m) (j := K + N) (by omega) (by omega)
          unfold Hid
          simpa [Addr.add_none] using h7
        obtain ⟨tc, tn, tm⟩ := T
        unfold Tg.v at *
        have e1 : decide ((n : Int) - K < N) = false := by simp; omega
        have e2 : ((m : Int) ≤ (K : Int) + N) := by omega
        have e3 : (K : Int) + N ≤ (c : Int) := by omega
        have e4 : ¬ c = m := by omega
        clear q1 hl2
        go_wp2_with fail
        refine (hR.out _ hB).mono ?_
        rintro e w2 ⟨he, hb2⟩
        have he2 := HV.out _ he
        subst he2
        have hB2 : Below w.heap.size w w2 := hB.trans (hb2.mono hB.size)
        have hrow2 := World.ownsRow.kept (row := none) hrow ⟨hb2.os, hb2.tape, hb2.output, hb2.size, fun i hi _ => hb2.block i hi⟩ (by cases u6.ownBlock <;> simp)
        have HB2 := Lib.hid hB2
        have HROW := Lib.hid hrow2
        clear he hb2 hR HV hrow hB hB2 hrow2
        have hsz2 : w.heap.size ≤ w2.heap.size := HB2.out.size
        go_wp2_with (at_builtin; refine wpList_appendS rfl _ _ 27 rfl w.heap.size 41 i1 (.slice none 0 0) Try.underlying27 hi1 hz0 hz1 hz2 rfl _ acc.length vs rfl ?ab0 _ 1 _ [.slice (some ⟨b, o + m, none⟩) (K + N - m) (c - m)] rfl rfl ?ab1 ?ab2 ?ab3 ?ab4 ?_)
        case ab0 => exact (HROW.out.alloc _).alloc _
        case ab1 =>
          have h9 := (Vs.new1 (w2.alloc (.cells #[.int .i64 tc, .int .i64 tn, .bool tm] 29)) (.slice (some ⟨b, o + m, none⟩) (K + N - m) (c - m)) 41).2
          have hsA : (w2.alloc (.cells #[.int .i64 tc, .int .i64 tn, .bool tm] 29)).heap.size = w2.heap.size + 1 := by simp
          rw [hsA] at h9
          exact h9
        case ab2 => simp [Value.oneCell']
        case ab3 => omega
        case ab4 => simp; omega
        intro v4 w4 hrow4 hg4
        have hBA := (HB2.out.alloc hsz2 (.cells #[.int .i64 tc, .int .i64 tn, .bool tm] 29)).alloc (by simp; omega) (.cells #[.slice (some ⟨b, o + m, none⟩) (K + N - m) (c - m)] 41)
        have hB4 : Below w.heap.size w w4 := hBA.grown hg4 (by simp; omega) (fun q hq => (HROW.out.lt q hq).1)
        have hvs4 := hvs.append (Vss.cons HBs.out (show K + N - m ≤ c - m by omega) (Vss.nil w))
        have HV4 := Lib.hid hvs4
        clear hBA hg4 hvs hvs4
        go_wp2
        go_roundw
        case rel => exact ⟨K + N, acc ++ [(l.drop m).take (K + N - m)], _, by go_num, by omega, by omega, by simp; omega, hB4, by simpa using hrow4, HV4.out, hst2⟩
        case measure => simp [intOf]; omega
      · have hst2 : Hid (whs l k = ([], (nx l m).2.2)) := by
          unfold Hid
          rw [hst.out, whs_err l m (by have := HL.out; omega) hok]
          unfold whs2
          rw [if_pos hok]
        have hno := nx_no l m hok
        have hl2 := HL.out
        clear hst hok
        generalize (nx l m).2.2 = E at *
        generalize rHead l m = T at *
        obtain ⟨⟨tc, tn, tm⟩, N0, K, E0⟩ := T
        simp only at hno HV
        unfold Tg.v at *
        have hF : Hid (∀ W, Below w.heap.size w W → RwOk w l k (.returned (.tuple #[.slice none 0 0, .int .i64 E])) W) := by
          intro W hW
          refine ⟨none, 0, 0, [], by rw [hst2.out], by rw [hst2.out]; rfl, World.ownsRow_nil _ _ _ _, by rw [hst2.out]; exact Vss.nil _, hW⟩
        rcases hno with ⟨hne, rfl⟩ | ⟨rfl, q1, q2, q3, q4, q5, rfl⟩
        · have e1 : (E != 0) = true := by simp; exact hne
          clear hne hst2 hvs hrow
          go_wp2_with fail
          refine (hR.out _ hB).mono ?_
          rintro e w2 ⟨he, hb2⟩
          have he2 := HV.out _ he
          subst he2
          have hF2 := Lib.hid (hF.out _ ((hB.trans (hb2.mono hB.size)).alloc (Nat.le_trans hB.size hb2.size) (.cells #[.int .i64 tc, .int .i64 tn, .bool tm] 29)))
          clear he hb2 hR HV hB hF
          go_wp2
          go_ret2
          exact hF2.out
        · have e1 : decide ((n : Int) - K < N0) = true := by simp; omega
          have e5 : K ≤ n := by omega
          clear q1 q2 q3 hst2 hvs hrow hl2
          go_wp2_with fail
          refine (hR.out _ hB).mono ?_
          rintro e w2 ⟨he, hb2⟩
          have he2 := HV.out _ he
          subst he2
          have hF2 := Lib.hid (hF.out _ ((hB.trans (hb2.mono hB.size)).alloc (Nat.le_trans hB.size hb2.size) (.cells #[.int .i64 tc, .int .i64 tn, .bool tm] 29)))
          clear he hb2 hR HV hB hF
          go_wp2
          go_ret2
          exact hF2.out
    · have hst2 : Hid (whs l k = (acc, 0)) := by
        unfold Hid
        rw [hst.out, whs_end l m (by have := HL.out; omega)]
        simp [whs2]
      have hvs2 := Lib.hid (hvs.keep fun A n l hb => hb.below hB)
      have HB := Lib.hid hB
      have HR := Lib.hid hrow
      obtain ⟨A6, c6, rfl, _⟩ := bss_own hrow (hvs.keep fun A n l hb => hb.below hB)
      clear hst hvs hB hrow
      go_wp2
      go_ret2
      exact ⟨A6, _, c6, vs, by rw [hst2.out]; rfl, by rw [hst2.out], HR.out, by rw [hst2.out]; exact hvs2.out, HB.out⟩

end Go.Proofs.Ytbhfaakhcnkegaa

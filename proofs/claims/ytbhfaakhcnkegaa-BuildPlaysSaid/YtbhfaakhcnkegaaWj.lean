/-
  A sheet's calls: Shut.
-/
import Derived.Test.YtbhfaakhcnkegaaWi
namespace Go.Proofs.Ytbhfaakhcnkegaa
open Go.RowKit
set_option linter.unusedVariables false
set_option linter.unusedSimpArgs false
set_option maxRecDepth 4000

theorem step_append0 {P : Program} {w : World} {ops : Array Oper} {o : Oper} {a : Act} {K : Act → World → Prop} {Q : Exit → Act → World → Prop} {E : Prop} (hgd : o.guard = none) (s x : Operand) (t : TypeId)
    (ho : o.op = .call { callee := .builtin .append, args := #[s, x], argTypes := #[t, t] }) (v : Value) (A : Option Addr) (c : Nat) (hs : a.eval s = v) (hx : a.eval x = .slice A 0 c)
    (hrun : ∀ ty, (Builtin.append_ #[t, t] ty #[v, .slice A 0 c]).run P w = .ok v w) (h : K (a.put o.dst v) w) :
    if Region.wanted o (yielded ops a.tmps) = true then Oper.wp P o a w K Q else E := by
  have hw : Region.wanted o (yielded ops a.tmps) = true := by simp [Region.wanted, hgd]
  rw [if_pos hw]
  unfold Oper.wp execOp
  simp only [ho, resolve, invoke, builtin, Sem.run_bind, Sem.run_pure, Result.andThen_ok, List.map_toArray, List.map_cons, List.map_nil, hs, hx, hrun]
  exact h

set_option maxHeartbeats 3200000 in
theorem bdDelete (g k cap : Nat) (xs : List Value) (w : World) (h : w.ownsRow 0 83 5 (.slice (some ⟨g, 0, none⟩) (k + 1) cap) (k + 1) xs) :
    Calls Try.prog 49 #[.slice (some ⟨g, 0, none⟩) (k + 1) cap, .int .i64 k, .int .i64 (k + 1)] w fun e w' => e = .returned (.slice (some ⟨g, 0, none⟩) k cap) ∧ w'.ownsRow 0 83 5 (.slice (some ⟨g, 0, none⟩) k cap) k (xs.take (k * 5)) ∧ w.grownBy w' (some g) := by
  obtain ⟨i1, hi1, hz0, hz1, hz2⟩ := info_parts fr_info
  obtain ⟨hlx, hr⟩ := h
  rcases hr with ⟨he, _⟩ | ⟨g', cap', cur, he, _, hg, hle, hmx, hsz, htk⟩
  · simp at he
  · simp at he
    obtain ⟨rfl, rfl⟩ := he
    have hap : ∀ (A : Option Addr) (c' : Nat) (W : World) ty, (Builtin.append_ #[84, 84] ty #[.slice (some ⟨g, 0, none⟩) k cap, .slice A 0 c']).run Try.prog W = .ok (.slice (some ⟨g, 0, none⟩) k cap) W := by
      intro A c' W ty
      have : k ≤ cap := by omega
      cases A <;> simp [Builtin.append_, run_underlying Try.underlying84, sizeOf, typeInfo, hi1, hz1, Builtin.lenOf, Builtin.firstCells, this, storeCells, loadCells, loadCellsFrom]
    have hne : ((k : Int) == (k : Int) + 1) = false := by simp; omega
    have l1 : k ≤ k + 1 := by omega
    have l2 : k ≤ cap := by omega
    have l3 : (k : Int) ≤ (k : Int) + 1 := by omega
    have l4 : (0 : Int) ≤ (k : Int) + 1 := by omega
    have l5 : (k : Int) + 1 ≤ (cap : Int) := by omega
    have HF : Hid (∀ n : Nat, ((w.drewN n).setRow g (cur.toList.take (k * 5) ++ frCs (List.replicate 1 fr0) (List.replicate 1 (.slice none 0 0)) ++ cur.toList.drop (k * 5 + 1 * 5)).toArray).ownsRow 0 83 5 (.slice (some ⟨g, 0, none⟩) k cap) k (xs.take (k * 5)) ∧ w.grownBy ((w.drewN n).setRow g (cur.toList.take (k * 5) ++ frCs (List.replicate 1 fr0) (List.replicate 1 (.slice none 0 0)) ++ cur.toList.drop (k * 5 + 1 * 5)).toArray) (some g)) := by
      intro n
      have hlf : (frCs [fr0] [Value.slice none 0 0]).length = 5 := rfl
      refine ⟨⟨by rw [List.length_take]; omega, .inr ⟨g, cap, _, rfl, Nat.zero_le _, setRow_heap (w.drewN n) g cur _ _ _ hg, l2, hmx, ?_, ?_⟩⟩, ⟨rfl, rfl, rfl, by simp, fun j hj hne => setRow_other (w.drewN n) g j _ (by intro e; subst e; exact hne rfl)⟩⟩
      · simp [hlf]; omega
      · rw [← htk]
        simp
        rw [List.take_append_of_le_length (by simp; omega), List.take_take, List.take_take]
        congr 1
        omega
    have hcl := fun (n : Nat) (c : Nat) ty => run_clearF (w := w.drewN n) (g := g) (o := k * 5) (m := 1) (c := c) (cur := cur) hg (by omega) ty
    have HCL := Lib.hid hcl
    have HAP := Lib.hid hap
    clear hcl hlx htk hz0 hz2 hap
    go_enter Try.func49, Try.ntmps49
    go_wp2_with fail
    have hcl1 : ∀ (c : Nat) ty, (Builtin.clear_ #[84] ty #[.slice (some ⟨g, k * 5, none⟩) 1 c]).run Try.prog w.drew = .ok (.tuple #[]) (w.drew.setRow g (cur.toList.take (k * 5) ++ frCs (List.replicate 1 fr0) (List.replicate 1 (.slice none 0 0)) ++ cur.toList.drop (k * 5 + 1 * 5)).toArray) := fun c ty => HCL.out 1 c ty
    generalize (cur.toList.take (k * 5) ++ frCs (List.replicate 1 fr0) (List.replicate 1 (.slice none 0 0)) ++ cur.toList.drop (k * 5 + 1 * 5)).toArray = NEW at *
    by_cases hk : cap = k + 1
    · subst hk
      go_region_law (refine step_append0 (by rfl) _ _ 84 (by rfl) _ _ _ (by rfl) (by rfl) (fun ty => HAP.out _ _ _ ty) ?_)
      all_goals
        clear hg hsz
        go_wp2
        go_ret
        exact ⟨rfl, (HF.out 1).1, (HF.out 1).2⟩
    · go_region_law (refine step_append0 (by rfl) _ _ 84 (by rfl) _ _ _ (by rfl) (by rfl) (fun ty => HAP.out _ _ _ ty) ?_)
      all_goals
        clear hg hsz
        go_wp2
        go_ret
        exact ⟨rfl, (HF.out 1).1, (HF.out 1).2⟩

end Go.Proofs.Ytbhfaakhcnkegaa
